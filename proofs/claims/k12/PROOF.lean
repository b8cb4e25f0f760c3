import PyProof.Rows.All
import Wide.All
import OpenK.AllK
import Wide.FinOn
import HandS.ForMost
import HandS.IsInst
import HandS.Wide
import HandS.TupAny
import HandS.TupMul
import HandS.Rev
import HandS.Style
import HandS.Strs
import HandS.Walk
import KE.GoesEnum
import HandS.Dict
import HandS.TupSets
import KE.KDictPairs
import HandS.List
import KE.KRevSl
import PyProof.ReprRoads
import PyProof.ReprBulk
import HandS.WideMore
import HandS.WideBits
import HandS.ExcInit
import HandS.ExcField
import HandS.ExcIs
import HandS.ExcValue
import KE.KExcIs
import HandS.Exc
import HandS.Lambda
import HandS.EndTab
import KE.KNestM
import HandS.WordsExc
import KE.DataFind
import KE.SortKeyHeap
import HandS.SortKw
import HandS.SortInts
import KE.DataMinMax
import KE.LtData
import HandS.Deep
import PySem.Challenge.RW_mergebudget_k12_indexes_within_budgets
set_option Elab.async false
set_option linter.all false
set_option maxRecDepth 100000
namespace MB
inductive T where
  | nil
  | node (l r : T)
  deriving DecidableEq

namespace T
def size : T → Nat
  | nil => 0
  | node l r => l.size + 1 + r.size
def runs : T → Nat
  | nil => 0
  | node _ r => 1 + r.runs
def sch : T → List Nat
  | nil => []
  | node l r => l.sch ++ l.runs :: r.sch
def rc : T → List Nat
  | nil => []
  | node l r => l.rc ++ 1 :: r.rc.map (· + 1)
def wr : T → List Nat
  | nil => []
  | node l r => l.wr.map (· + 1) ++ 1 :: r.wr
/-- parents: off, the number of the first node; p, the parent of the root -/
def par (off p : Int) : T → List Int
  | nil => []
  | node l r => par off (off + l.size) l ++ p :: par (off + l.size + 1) (off + l.size) r
def mir : T → T
  | nil => nil
  | node l r => node r.mir l.mir
def push (t : T) (m : Nat) : T :=
  if m = t.runs then node t nil else match t with
    | nil => nil
    | node l r => node l (push r m)
/-- the first flush of the run that a flush that merges m writes -/
def start (t : T) (m : Nat) : Nat :=
  if m = t.runs then 0 else match t with
    | nil => 0
    | node l r => l.size + 1 + start r m
/-- the stack: intervals of the right spine -/
def stk (off : Nat) : T → List (Nat × Nat)
  | nil => []
  | node l r => (off, off + l.size + 1) :: stk (off + l.size + 1) r
def graft : T → T → T
  | nil, t => t
  | node l r, t => node l (graft r t)

theorem sch_len : ∀ t : T, t.sch.length = t.size
  | nil => rfl
  | node l r => by simp [sch, size, sch_len l, sch_len r]; omega
theorem rc_len : ∀ t : T, t.rc.length = t.size
  | nil => rfl
  | node l r => by simp [rc, size, rc_len l, rc_len r]; omega
theorem wr_len : ∀ t : T, t.wr.length = t.size
  | nil => rfl
  | node l r => by simp [wr, size, wr_len l, wr_len r]; omega
theorem par_len : ∀ (t : T) (off p : Int), (t.par off p).length = t.size
  | nil, _, _ => rfl
  | node l r, off, p => by simp [par, size, par_len l, par_len r]; omega
theorem runs_le : ∀ t : T, t.runs ≤ t.size
  | nil => Nat.le_refl _
  | node l r => by have := runs_le r; simp [runs, size]; omega
theorem sum_sch : ∀ t : T, t.sch.sum + t.runs = t.size
  | nil => rfl
  | node l r => by
    have h1 := sum_sch l; have h2 := sum_sch r
    simp [sch, runs, size, List.sum_append]; omega
theorem stk_len : ∀ (t : T) (off : Nat), (t.stk off).length = t.runs
  | nil, _ => rfl
  | node l r, off => by simp [stk, runs, stk_len r]; omega

/-! ### push -/
theorem push_eq {t : T} : t.push t.runs = node t nil := by
  unfold push; rw [if_pos rfl]
theorem push_node {l r : T} {m : Nat} (h : m ≤ r.runs) : (node l r).push m = node l (r.push m) := by
  conv => lhs; unfold push
  rw [if_neg (by simp [runs]; omega)]
theorem start_eq {t : T} : t.start t.runs = 0 := by
  unfold start; rw [if_pos rfl]
theorem start_node {l r : T} {m : Nat} (h : m ≤ r.runs) : (node l r).start m = l.size + 1 + r.start m := by
  conv => lhs; unfold start
  rw [if_neg (by simp [runs]; omega)]
/-- the two ways of a push -/
theorem push_ind {C : T → Nat → Prop} (h1 : ∀ t, C t t.runs) (h2 : ∀ l r m, m ≤ r.runs → C r m → C (node l r) m) : ∀ (t : T) (m : Nat), m ≤ t.runs → C t m
  | nil, m, h => by
    have : m = nil.runs := by simp [runs] at h ⊢; omega
    rw [this]; exact h1 nil
  | node l r, m, h => by
    by_cases e : m = (node l r).runs
    · rw [e]; exact h1 _
    · have hm : m ≤ r.runs := by simp [runs] at h e; omega
      exact h2 l r m hm (push_ind h1 h2 r m hm)
theorem push_sch : ∀ (t : T) (m : Nat), m ≤ t.runs → (t.push m).sch = t.sch ++ [m] :=
  push_ind (fun t => by rw [push_eq]; simp [sch]) fun l r m h ih => by rw [push_node h]; simp [sch, ih]
theorem push_size : ∀ (t : T) (m : Nat), m ≤ t.runs → (t.push m).size = t.size + 1 :=
  push_ind (fun t => by rw [push_eq]; simp [size]) fun l r m h ih => by rw [push_node h]; simp [size, ih]; omega
theorem push_runs : ∀ (t : T) (m : Nat), m ≤ t.runs → (t.push m).runs = t.runs - m + 1 :=
  push_ind (fun t => by rw [push_eq]; simp [runs]) fun l r m h ih => by rw [push_node h]; simp [runs, ih]; omega
theorem push_rc : ∀ (t : T) (m : Nat), m ≤ t.runs → (t.push m).rc = t.rc ++ [t.runs - m + 1] :=
  push_ind (fun t => by rw [push_eq]; simp [rc]) fun l r m h ih => by
    rw [push_node h]; simp [rc, ih, runs]; omega
theorem start_le : ∀ (t : T) (m : Nat), m ≤ t.runs → t.start m ≤ t.size :=
  push_ind (fun t => by rw [start_eq]; omega) fun l r m h ih => by rw [start_node h]; simp [size]; omega
theorem push_wr : ∀ (t : T) (m : Nat), m ≤ t.runs → (t.push m).wr = t.wr.take (t.start m) ++ ((t.wr.drop (t.start m)).map (· + 1) ++ [1]) :=
  push_ind (fun t => by rw [push_eq, start_eq]; simp [wr]) fun l r m h ih => by
    rw [push_node h, start_node h]
    have e : (wr (node l r)) = (l.wr.map (· + 1) ++ [1]) ++ r.wr := by simp [wr]
    have el : (l.wr.map (· + 1) ++ [1]).length = l.size + 1 := by simp [wr_len]
    rw [e, List.take_append, List.drop_append, el]
    rw [List.take_of_length_le (by rw [el]; omega), List.drop_eq_nil_of_le (by rw [el]; omega)]
    rw [show l.size + 1 + r.start m - (l.size + 1) = r.start m by omega]
    simp [wr, ih]
theorem stk_push : ∀ (t : T) (m : Nat), m ≤ t.runs → ∀ off, (t.push m).stk off = (t.stk off).take (t.runs - m) ++ [(off + t.start m, off + t.size + 1)] :=
  push_ind (fun t off => by rw [push_eq, start_eq]; simp [stk]) fun l r m h ih off => by
    rw [push_node h, start_node h]
    have hh : (node l r).runs - m = (r.runs - m) + 1 := by simp [runs]; omega
    rw [hh]
    simp [stk, ih, size]
    omega
theorem stk_at : ∀ (t : T) (m : Nat), m ≤ t.runs → ∀ off, 0 < m → ∃ e, (t.stk off)[t.runs - m]? = some (off + t.start m, e) :=
  push_ind (fun t off h => by
      rw [start_eq, Nat.sub_self]
      cases t with
      | nil => simp [runs] at h
      | node l r => exact ⟨_, rfl⟩) fun l r m h ih off h0 => by
    rw [start_node h]
    have hh : (node l r).runs - m = (r.runs - m) + 1 := by simp [runs]; omega
    rw [hh]
    obtain ⟨e, he⟩ := ih (off + l.size + 1) h0
    refine ⟨e, ?_⟩
    simp only [stk, List.getElem?_cons_succ, he]
    congr 2; omega
theorem start_zero : ∀ (t : T) (m : Nat), m ≤ t.runs → m = 0 → t.start m = t.size :=
  push_ind (fun t h => by
      rw [start_eq]
      cases t with
      | nil => rfl
      | node l r => simp [runs] at h) fun l r m h ih h0 => by
    rw [start_node h, ih h0]; simp [size]

/-! ### schedules and trees -/
theorem graft_nil : ∀ t : T, t.graft nil = t
  | nil => rfl
  | node l r => by simp [graft, graft_nil r]
theorem graft_assoc : ∀ a b c : T, (a.graft b).graft c = a.graft (b.graft c)
  | nil, _, _ => rfl
  | node l r, b, c => by simp [graft, graft_assoc r b c]
theorem graft_runs : ∀ a b : T, (a.graft b).runs = a.runs + b.runs
  | nil, b => by simp [graft, runs]
  | node l r, b => by simp [graft, runs, graft_runs r b]; omega
theorem graft_push : ∀ (u l : T), (u.graft l).push l.runs = u.graft (node l nil)
  | nil, l => by simp [graft, push_eq]
  | node a b, l => by
    simp only [graft]
    rw [push_node (by rw [graft_runs]; omega), graft_push b l]
theorem foldl_sch : ∀ (t u : T), t.sch.foldl push u = u.graft t
  | nil, u => by simp [sch, graft_nil]
  | node l r, u => by
    simp only [sch, List.foldl_append, List.foldl_cons]
    rw [foldl_sch l u, graft_push, foldl_sch r, graft_assoc]
    rfl
theorem sch_inj {a b : T} (h : a.sch = b.sch) : a = b := by
  have e1 := foldl_sch a nil
  have e2 := foldl_sch b nil
  rw [h, e2] at e1
  exact e1.symm
end T

/-- a schedule that begins with `runs` runs -/
def Ok : Nat → List Nat → Prop
  | _, [] => True
  | k, m :: r => m ≤ k ∧ Ok (k - m + 1) r
theorem ok_tree : ∀ (p : List Nat) (u : T), Ok u.runs p → ∃ t : T, t.sch = u.sch ++ p ∧ p.foldl T.push u = t
  | [], u, _ => ⟨u, by simp, rfl⟩
  | m :: r, u, h => by
    obtain ⟨h1, h2⟩ := h
    rw [← T.push_runs u m h1] at h2
    obtain ⟨t, e1, e2⟩ := ok_tree r (u.push m) h2
    exact ⟨t, by rw [e1, T.push_sch u m h1]; simp, e2⟩
theorem tree_ex {p : List Nat} (h : Ok 0 p) : ∃ t : T, t.sch = p := by
  obtain ⟨t, e, _⟩ := ok_tree p .nil h
  exact ⟨t, by rw [e]; rfl⟩
theorem ok_app : ∀ (p q : List Nat) (k k' : Nat), Ok k p → k' + p.sum = k + p.length → Ok k' q → Ok k (p ++ q)
  | [], q, k, k', _, e, h => by
    have : k' = k := by simpa using e
    subst this; exact h
  | m :: r, q, k, k', h, e, hq => ⟨h.1, ok_app r q (k - m + 1) k' h.2 (by have := h.1; simp at e; omega) hq⟩
theorem ok_sch_from : ∀ (t : T) (k : Nat), Ok k t.sch
  | .nil, _ => trivial
  | .node l r, k => by
    refine ok_app l.sch _ k (k + l.runs) (ok_sch_from l k) (by have := T.sum_sch l; rw [T.sch_len]; omega) ?_
    exact ⟨by omega, ok_sch_from r _⟩
theorem ok_take : ∀ (p : List Nat) (k i : Nat), Ok k p → Ok k (p.take i)
  | [], _, i, _ => by cases i <;> trivial
  | m :: r, k, 0, _ => trivial
  | m :: r, k, i + 1, h => ⟨h.1, ok_take r _ i h.2⟩
/-- the tree of the first i flushes -/
def pre (t : T) (i : Nat) : T := (t.sch.take i).foldl T.push .nil
theorem pre_sch (t : T) (i : Nat) : (pre t i).sch = t.sch.take i := by
  obtain ⟨u, e1, e2⟩ := ok_tree (t.sch.take i) .nil (ok_take _ _ i (ok_sch_from t _))
  unfold pre; rw [e2, e1]; rfl
theorem pre_size {t : T} {i : Nat} (h : i ≤ t.size) : (pre t i).size = i := by
  rw [← T.sch_len, pre_sch, List.length_take, T.sch_len]; omega
theorem pre_zero (t : T) : pre t 0 = .nil := rfl
theorem pre_all (t : T) : pre t t.size = t := T.sch_inj (by rw [pre_sch, List.take_of_length_le (by rw [T.sch_len]; exact Nat.le_refl _)])
theorem ok_last : ∀ (p : List Nat) (k m : Nat) (q : List Nat), Ok k (p ++ m :: q) → m + p.sum ≤ k + p.length
  | [], k, m, q, h => by simpa using h.1
  | a :: r, k, m, q, h => by
    have := ok_last r (k - a + 1) m q h.2
    have h1 := h.1
    simp; omega
theorem pre_succ {t : T} {i : Nat} {m : Nat} (h : t.sch[i]? = some m) : pre t (i + 1) = (pre t i).push m ∧ m ≤ (pre t i).runs := by
  have hi : i < t.sch.length := (List.getElem?_eq_some_iff.mp h).1
  constructor
  · unfold pre
    rw [List.take_add_one, h]
    simp
  · have e : t.sch = t.sch.take i ++ m :: t.sch.drop (i + 1) := by
      have h2 := List.getElem?_eq_some_iff.mp h
      obtain ⟨h3, h4⟩ := h2
      rw [← h4]
      simp
    have h1 := ok_sch_from t 0
    rw [e] at h1
    have h2 := ok_last _ _ _ _ h1
    have h3 := T.sum_sch (pre t i)
    rw [pre_sch] at h3
    have h4 : (pre t i).size = (t.sch.take i).length := by rw [← T.sch_len, pre_sch]
    omega
theorem rc_take : ∀ (t : T) (i : Nat), (pre t i).rc = t.rc.take i := by
  intro t i
  by_cases hi : i ≤ t.size
  · suffices h : ∀ k, i + k = t.size → (pre t i).rc = t.rc.take i from h (t.size - i) (by omega)
    intro k
    induction k generalizing i with
    | zero =>
      intro e
      rw [show i = t.size by omega, pre_all, List.take_of_length_le (by rw [T.rc_len]; omega)]
    | succ k ih =>
      intro e
      have hl : i < t.sch.length := by rw [T.sch_len]; omega
      obtain ⟨e1, h1⟩ := pre_succ (List.getElem?_eq_getElem hl)
      have h2 := ih (i + 1) (by omega) (by omega)
      rw [e1, T.push_rc _ _ h1] at h2
      have h3 := congrArg (List.take i) h2
      rw [List.take_append_of_le_length (by rw [T.rc_len, pre_size (by omega)]; omega), List.take_take, List.take_of_length_le (by rw [T.rc_len, pre_size (by omega)]; omega)] at h3
      rw [h3]; congr 1; omega
  · have e : t.sch.take i = t.sch := List.take_of_length_le (by rw [T.sch_len]; omega)
    have : pre t i = t := T.sch_inj (by rw [pre_sch, e])
    rw [this, List.take_of_length_le (by rw [T.rc_len]; omega)]
theorem rc_at {t : T} {i m : Nat} (h : t.sch[i]? = some m) : t.rc[i]? = some ((pre t i).runs - m + 1) := by
  obtain ⟨e1, h1⟩ := pre_succ h
  have hi : i < t.size := by rw [← T.sch_len]; exact (List.getElem?_eq_some_iff.mp h).1
  have h2 := rc_take t (i + 1)
  rw [e1, T.push_rc _ _ h1] at h2
  have h3 := congrArg (fun l : List Nat => l[i]?) h2
  simp only [List.getElem?_take] at h3
  rw [List.getElem?_append_right (by rw [T.rc_len, pre_size (by omega)]; omega), T.rc_len, pre_size (by omega)] at h3
  simp at h3
  exact h3.symm
theorem pre_runs {t : T} {i : Nat} (h : i < t.size) : t.rc[i]? = some (pre t (i + 1)).runs := by
  have hl : i < t.sch.length := by rw [T.sch_len]; exact h
  obtain ⟨e1, h1⟩ := pre_succ (List.getElem?_eq_getElem hl)
  rw [rc_at (List.getElem?_eq_getElem hl), e1, T.push_runs _ _ h1]
/-! ### write counts by place -/
theorem wr_step {t : T} {m : Nat} (h : m ≤ t.runs) (k : Nat) : ((t.push m).wr.getD k 0) = if t.start m ≤ k ∧ k < t.size + 1 then t.wr.getD k 0 + 1 else t.wr.getD k 0 := by
  have hs := T.start_le t m h
  have hl := T.wr_len t
  rw [T.push_wr t m h]
  simp only [List.getD_eq_getElem?_getD]
  by_cases h1 : k < t.start m
  · rw [List.getElem?_append_left (by rw [List.length_take]; omega), List.getElem?_take, if_pos h1, if_neg (by omega)]
  · have e : (t.wr.take (t.start m)).length = t.start m := by rw [List.length_take]; omega
    rw [List.getElem?_append_right (by omega), e]
    by_cases h2 : k < t.size
    · rw [List.getElem?_append_left (by rw [List.length_map, List.length_drop]; omega), List.getElem?_map, List.getElem?_drop, if_pos (by omega), show t.start m + (k - t.start m) = k by omega]
      rw [List.getElem?_eq_getElem (by omega)]
      rfl
    · by_cases h3 : k = t.size
      · have e2 : ((t.wr.drop (t.start m)).map (· + 1)).length = k - t.start m := by rw [List.length_map, List.length_drop]; omega
        rw [List.getElem?_append_right (by omega), e2, Nat.sub_self, if_pos (by omega), List.getElem?_eq_none (by omega : t.wr.length ≤ k)]
        rfl
      · rw [List.getElem?_eq_none (by simp; omega), if_neg (by omega), List.getElem?_eq_none (by omega : t.wr.length ≤ k)]
theorem list_by {c d : List Nat} (hl : c.length = d.length) (h : ∀ k, k < c.length → c[k]? = some (d.getD k 0)) : c = d := by
  refine List.ext_getElem? fun k => ?_
  by_cases hk : k < c.length
  · rw [h k hk, List.getD_eq_getElem?_getD, List.getElem?_eq_getElem (by omega)]
    rfl
  · rw [List.getElem?_eq_none (by omega), List.getElem?_eq_none (by omega)]
theorem stk_last {t : T} {i m : Nat} (h : t.sch[i]? = some m) : (pre t (i + 1)).stk 0 = ((pre t i).stk 0).take ((pre t i).runs - m) ++ [((pre t i).start m, i + 1)] := by
  obtain ⟨e, h1⟩ := pre_succ h
  have hi : i < t.size := by rw [← T.sch_len]; exact (List.getElem?_eq_some_iff.mp h).1
  rw [e, T.stk_push _ _ h1, Nat.zero_add, Nat.zero_add, pre_size (by omega)]

/-! ### subtrees -/
inductive Sub (t : T) : Nat → T → Nat → Int → Prop
  | root : Sub t 0 t 1 (-1)
  | left {off k : Nat} {p : Int} {l r : T} : Sub t off (.node l r) k p → Sub t off l k ((off + l.size : Nat) : Int)
  | right {off k : Nat} {p : Int} {l r : T} : Sub t off (.node l r) k p → Sub t (off + l.size + 1) r (k + 1) ((off + l.size : Nat) : Int)
def T.parOf (t : T) : List Int := t.par 0 (-1)
theorem slice_left {α : Type} {L a b : List α} {x : α} {off : Nat} (h : (L.drop off).take (a.length + 1 + b.length) = a ++ x :: b) : (L.drop off).take a.length = a := by
  have := congrArg (List.take a.length) h
  rw [List.take_take, List.take_left' rfl, show min a.length (a.length + 1 + b.length) = a.length by omega] at this
  exact this
theorem slice_mid {α : Type} {L a b : List α} {x : α} {off : Nat} (h : (L.drop off).take (a.length + 1 + b.length) = a ++ x :: b) : L[off + a.length]? = some x := by
  have := congrArg (fun l : List α => l[a.length]?) h
  simp only [List.getElem?_take, List.getElem?_drop] at this
  rw [if_pos (by omega), List.getElem?_append_right (Nat.le_refl _), Nat.sub_self] at this
  simpa using this
theorem slice_right {α : Type} {L a b : List α} {x : α} {off : Nat} (h : (L.drop off).take (a.length + 1 + b.length) = a ++ x :: b) : (L.drop (off + a.length + 1)).take b.length = b := by
  have := congrArg (List.drop (a.length + 1)) h
  rw [List.drop_take, List.drop_drop] at this
  have e2 : List.drop (a.length + 1) (a ++ x :: b) = b := by
    rw [List.drop_append]; simp
  rw [e2] at this
  have h2 := congrArg (List.take b.length) this
  rw [List.take_take, List.take_length] at h2
  rw [← Nat.add_assoc] at h2
  rw [show b.length = min b.length (a.length + 1 + b.length - (a.length + 1)) by omega]
  exact h2
theorem sub_le {t : T} {off k : Nat} {s : T} {p : Int} (h : Sub t off s k p) : off + s.size ≤ t.size ∧ 1 ≤ k ∧ k ≤ off + 1 := by
  induction h with
  | root => exact ⟨by omega, by omega, by omega⟩
  | left _ ih => simp only [T.size] at ih; omega
  | right _ ih => simp only [T.size] at ih; omega
theorem sub_out {t : T} {off k : Nat} {s : T} {p : Int} (h : Sub t off s k p) : (p = -1 ∨ ((0 ≤ p ∧ p < t.size) ∧ (p + 1 = off ∨ p = ((off + s.size : Nat) : Int)))) := by
  cases h with
  | root => exact .inl rfl
  | left h => have := sub_le h; simp only [T.size] at this; exact .inr ⟨by omega, .inr rfl⟩
  | right h => have := sub_le h; simp only [T.size] at this; exact .inr ⟨by omega, .inl (by omega)⟩
theorem sub_rc {t : T} {off k : Nat} {s : T} {p : Int} (h : Sub t off s k p) : (t.rc.drop off).take s.size = s.rc.map (· + (k - 1)) := by
  induction h with
  | root => simp [← T.rc_len]
  | @left off k p l r h ih =>
    have e : (T.node l r).rc.map (· + (k - 1)) = l.rc.map (· + (k - 1)) ++ (1 + (k - 1)) :: (r.rc.map (· + 1)).map (· + (k - 1)) := by simp [T.rc]
    rw [e] at ih
    have hl : (l.rc.map (· + (k - 1))).length = l.size := by rw [List.length_map, T.rc_len]
    have hr : ((r.rc.map (· + 1)).map (· + (k - 1))).length = r.size := by rw [List.length_map, List.length_map, T.rc_len]
    have := slice_left (a := l.rc.map (· + (k - 1))) (b := (r.rc.map (· + 1)).map (· + (k - 1))) (L := t.rc) (off := off) (x := 1 + (k - 1)) (by rw [hl, hr]; exact ih)
    rw [hl] at this
    exact this
  | @right off k p l r h ih =>
    have e : (T.node l r).rc.map (· + (k - 1)) = l.rc.map (· + (k - 1)) ++ (1 + (k - 1)) :: (r.rc.map (· + 1)).map (· + (k - 1)) := by simp [T.rc]
    rw [e] at ih
    have hl : (l.rc.map (· + (k - 1))).length = l.size := by rw [List.length_map, T.rc_len]
    have hr : ((r.rc.map (· + 1)).map (· + (k - 1))).length = r.size := by rw [List.length_map, List.length_map, T.rc_len]
    have := slice_right (a := l.rc.map (· + (k - 1))) (b := (r.rc.map (· + 1)).map (· + (k - 1))) (L := t.rc) (off := off) (x := 1 + (k - 1)) (by rw [hl, hr]; exact ih)
    rw [hl, hr] at this
    rw [this, List.map_map]
    refine List.map_congr_left fun a _ => ?_
    have := (sub_le h).2.1
    simp only [Function.comp]
    omega
theorem sub_par {t : T} {off k : Nat} {s : T} {p : Int} (h : Sub t off s k p) : (t.parOf.drop off).take s.size = s.par (off : Int) p := by
  induction h with
  | root => simp only [T.parOf]; rw [List.drop_zero, List.take_of_length_le (by rw [T.par_len]; omega)]; rfl
  | @left off k p l r h ih =>
    simp only [T.par] at ih
    have hl := T.par_len l (off : Int) ((off : Int) + l.size)
    have hr := T.par_len r ((off : Int) + l.size + 1) ((off : Int) + l.size)
    have := slice_left (a := l.par (off : Int) ((off : Int) + l.size)) (b := r.par ((off : Int) + l.size + 1) ((off : Int) + l.size)) (L := t.parOf) (off := off) (x := p) (by rw [hl, hr]; exact ih)
    rw [hl] at this
    rw [this, Int.natCast_add]
  | @right off k p l r h ih =>
    simp only [T.par] at ih
    have hl := T.par_len l (off : Int) ((off : Int) + l.size)
    have hr := T.par_len r ((off : Int) + l.size + 1) ((off : Int) + l.size)
    have := slice_right (a := l.par (off : Int) ((off : Int) + l.size)) (b := r.par ((off : Int) + l.size + 1) ((off : Int) + l.size)) (L := t.parOf) (off := off) (x := p) (by rw [hl, hr]; exact ih)
    rw [hl, hr] at this
    rw [this]
    simp only [Int.natCast_add]
    rfl
theorem sub_root {t : T} {off k : Nat} {l r : T} {p : Int} (h : Sub t off (.node l r) k p) : t.parOf[off + l.size]? = some p := by
  have ih := sub_par h
  simp only [T.par] at ih
  have hl := T.par_len l (off : Int) ((off : Int) + l.size)
  have hr := T.par_len r ((off : Int) + l.size + 1) ((off : Int) + l.size)
  have := slice_mid (a := l.par (off : Int) ((off : Int) + l.size)) (b := r.par ((off : Int) + l.size + 1) ((off : Int) + l.size)) (L := t.parOf) (off := off) (x := p) (by rw [hl, hr]; exact ih)
  rw [hl] at this
  exact this
/-- the parents of a subtree: the root's alone lies outside -/
theorem par_in : ∀ (s : T) (off p : Int) (i : Nat) (q : Int), (s.par off p)[i]? = some q → (∃ l r, s = .node l r ∧ i = l.size ∧ q = p) ∨ (off ≤ q ∧ q < off + s.size ∧ ∀ l r, s = .node l r → i ≠ l.size)
  | .nil, _, _, _, _, h => by simp [T.par] at h
  | .node l r, off, p, i, q, h => by
    simp only [T.par] at h
    have hl := T.par_len l off (off + l.size)
    by_cases h1 : i < l.size
    · rw [List.getElem?_append_left (by omega)] at h
      refine .inr ?_
      rcases par_in l off (off + l.size) i q h with ⟨a, b, e, e2, e3⟩ | ⟨h2, h3, _⟩
      · refine ⟨by omega, by simp only [T.size]; omega, fun l' r' e' => by cases e'; omega⟩
      · refine ⟨by omega, by simp only [T.size]; omega, fun l' r' e' => by cases e'; omega⟩
    · rw [List.getElem?_append_right (by omega), hl] at h
      by_cases h2 : i = l.size
      · subst h2
        rw [Nat.sub_self] at h
        have : p = q := by simpa using h
        exact .inl ⟨l, r, rfl, rfl, this.symm⟩
      · obtain ⟨j, e⟩ : ∃ j, i - l.size = j + 1 := ⟨i - l.size - 1, by omega⟩
        rw [e, List.getElem?_cons_succ] at h
        refine .inr ?_
        rcases par_in r (off + l.size + 1) (off + l.size) j q h with ⟨a, b, e4, e2, e3⟩ | ⟨h4, h3, _⟩
        · refine ⟨by omega, by simp only [T.size]; omega, fun l' r' e' => by cases e'; omega⟩
        · refine ⟨by omega, by simp only [T.size]; omega, fun l' r' e' => by cases e'; omega⟩
theorem rc_pos : ∀ (s : T) (i v : Nat), s.rc[i]? = some v → 1 ≤ v
  | .nil, _, _, h => by simp [T.rc] at h
  | .node l r, i, v, h => by
    simp only [T.rc] at h
    by_cases h1 : i < l.size
    · rw [List.getElem?_append_left (by rw [T.rc_len]; exact h1)] at h
      exact rc_pos l i v h
    · rw [List.getElem?_append_right (by rw [T.rc_len]; omega), T.rc_len] at h
      rcases Nat.eq_zero_or_pos (i - l.size) with e | e
      · rw [e] at h; simp at h; omega
      · obtain ⟨j, e⟩ : ∃ j, i - l.size = j + 1 := ⟨i - l.size - 1, by omega⟩
        rw [e, List.getElem?_cons_succ, List.getElem?_map] at h
        cases h2 : r.rc[j]? with
        | none => rw [h2] at h; cases h
        | some u => rw [h2] at h; simp at h; omega
theorem rc_one {l r : T} {i : Nat} (h : (T.node l r).rc[i]? = some 1) : i ≤ l.size := by
  simp only [T.rc] at h
  by_cases h1 : i ≤ l.size
  · exact h1
  · rw [List.getElem?_append_right (by rw [T.rc_len]; omega), T.rc_len] at h
    obtain ⟨j, e⟩ : ∃ j, i - l.size = j + 1 := ⟨i - l.size - 1, by omega⟩
    rw [e, List.getElem?_cons_succ, List.getElem?_map] at h
    cases h2 : r.rc[j]? with
    | none => rw [h2] at h; cases h
    | some u =>
      have := rc_pos r j u h2
      rw [h2] at h; simp at h; omega
theorem rc_root (l r : T) : (T.node l r).rc[l.size]? = some 1 := by
  simp only [T.rc]
  rw [List.getElem?_append_right (by rw [T.rc_len]; exact Nat.le_refl _), T.rc_len, Nat.sub_self]; rfl
theorem sub_rc_at {t : T} {off k : Nat} {s : T} {p : Int} (h : Sub t off s k p) {i : Nat} (hi : i < s.size) : ∃ v, s.rc[i]? = some v ∧ t.rc[off + i]? = some (v + (k - 1)) := by
  have e := congrArg (fun l : List Nat => l[i]?) (sub_rc h)
  simp only [List.getElem?_take, List.getElem?_drop, List.getElem?_map] at e
  rw [if_pos hi] at e
  have hv := List.getElem?_eq_getElem (show i < s.rc.length by rw [T.rc_len]; exact hi)
  rw [hv] at e
  exact ⟨_, hv, e⟩
theorem sub_par_at {t : T} {off k : Nat} {s : T} {p : Int} (h : Sub t off s k p) {i : Nat} (hi : i < s.size) : ∃ q, (s.par (off : Int) p)[i]? = some q ∧ t.parOf[off + i]? = some q := by
  have e := congrArg (fun l : List Int => l[i]?) (sub_par h)
  simp only [List.getElem?_take, List.getElem?_drop] at e
  rw [if_pos hi] at e
  have hv := List.getElem?_eq_getElem (show i < (s.par (off : Int) p).length by rw [T.par_len]; exact hi)
  rw [hv] at e
  exact ⟨_, hv, e⟩
theorem filter_one {f : Nat → Bool} {n c : Nat} (hc : c < n) (h1 : f c = true) (h2 : ∀ i, i < n → f i = true → i = c) : (List.range n).filter f = [c] := by
  induction n with
  | zero => omega
  | succ n ih =>
    rw [List.range_succ, List.filter_append]
    by_cases e : c = n
    · subst e
      have e0 : (List.range c).filter f = [] := List.filter_eq_nil_iff.mpr fun i hi hf => by
        have := List.mem_range.mp hi
        have := h2 i (by omega) hf
        omega
      rw [e0]; simp [h1]
    · rw [ih (by omega) fun i hi hf => h2 i (by omega) hf]
      have : f n = false := by
        cases hf : f n with
        | false => rfl
        | true => exact absurd (h2 n (by omega) hf) (by omega)
      simp [this]
/-- the work of a list of subtrees -/
def todo : List (Nat × T × Nat × Int) → Nat
  | [] => 0
  | x :: r => 2 * x.2.1.size + 1 + todo r
theorem todo_app : ∀ a b, todo (a ++ b) = todo a + todo b
  | [], b => by simp [todo]
  | x :: r, b => by simp [todo, todo_app r b]; omega
theorem len_todo : ∀ L, L.length ≤ todo L
  | [] => Nat.le_refl _
  | x :: r => by have := len_todo r; simp [todo]; omega

/-! ### one step up -/
theorem getD_app_l {a b : List Nat} {i : Nat} (h : i < a.length) : (a ++ b).getD i 0 = a.getD i 0 := by
  simp only [List.getD_eq_getElem?_getD, List.getElem?_append_left h]
theorem getD_app_r {a b : List Nat} {i : Nat} (h : a.length ≤ i) : (a ++ b).getD i 0 = b.getD (i - a.length) 0 := by
  simp only [List.getD_eq_getElem?_getD, List.getElem?_append_right h]
theorem getD_map1 {a : List Nat} {i : Nat} (h : i < a.length) : (a.map (· + 1)).getD i 0 = a.getD i 0 + 1 := by
  simp only [List.getD_eq_getElem?_getD, List.getElem?_map, List.getElem?_eq_getElem h]; rfl
theorem wr_l {l r : T} {i : Nat} (h : i < l.size) : (T.node l r).wr.getD i 0 = l.wr.getD i 0 + 1 := by
  simp only [T.wr]
  rw [getD_app_l (by rw [List.length_map, T.wr_len]; exact h), getD_map1 (by rw [T.wr_len]; exact h)]
theorem wr_m {l r : T} : (T.node l r).wr.getD l.size 0 = 1 := by
  simp only [T.wr]
  rw [getD_app_r (by rw [List.length_map, T.wr_len]; exact Nat.le_refl _), List.length_map, T.wr_len, Nat.sub_self]; rfl
theorem wr_r {l r : T} {j : Nat} : (T.node l r).wr.getD (l.size + 1 + j) 0 = r.wr.getD j 0 := by
  simp only [T.wr]
  rw [getD_app_r (by rw [List.length_map, T.wr_len]; omega), List.length_map, T.wr_len, show l.size + 1 + j - l.size = j + 1 by omega, List.getD_cons_succ]
theorem rc_l {l r : T} {i : Nat} (h : i < l.size) : (T.node l r).rc.getD i 0 = l.rc.getD i 0 := by
  simp only [T.rc]
  rw [getD_app_l (by rw [T.rc_len]; exact h)]
theorem rc_m {l r : T} : (T.node l r).rc.getD l.size 0 = 1 := by
  simp only [T.rc]
  rw [getD_app_r (by rw [T.rc_len]; exact Nat.le_refl _), T.rc_len, Nat.sub_self]; rfl
theorem rc_r {l r : T} {j : Nat} (h : j < r.size) : (T.node l r).rc.getD (l.size + 1 + j) 0 = r.rc.getD j 0 + 1 := by
  simp only [T.rc]
  rw [getD_app_r (by rw [T.rc_len]; omega), T.rc_len, show l.size + 1 + j - l.size = j + 1 by omega, List.getD_cons_succ, getD_map1 (by rw [T.rc_len]; exact h)]
theorem up : ∀ (s : T) (off p : Int) (i : Nat) (q : Int), (s.par off p)[i]? = some q →
    (q = p ∧ s.wr.getD i 0 = 1 ∧ s.rc.getD i 0 = 1) ∨
    ∃ j : Nat, q = off + j ∧ j < s.size ∧ j ≠ i ∧ (i < j → s.wr.getD i 0 = s.wr.getD j 0 + 1 ∧ s.rc.getD i 0 = s.rc.getD j 0) ∧ (j < i → s.wr.getD i 0 = s.wr.getD j 0 ∧ s.rc.getD i 0 = s.rc.getD j 0 + 1)
  | .nil, _, _, _, _, h => by simp [T.par] at h
  | .node l r, off, p, i, q, h => by
    simp only [T.par] at h
    have hl := T.par_len l off (off + l.size)
    by_cases h1 : i < l.size
    · rw [List.getElem?_append_left (by omega)] at h
      refine .inr ?_
      rcases up l off (off + l.size) i q h with ⟨e, e1, e2⟩ | ⟨j, e, hj, hne, c1, c2⟩
      · exact ⟨l.size, e, by simp only [T.size]; omega, by omega, fun _ => ⟨by rw [wr_l h1, wr_m, e1], by rw [rc_l h1, rc_m, e2]⟩, fun z => by omega⟩
      · exact ⟨j, e, by simp only [T.size]; omega, hne, fun z => ⟨by rw [wr_l h1, wr_l hj, (c1 z).1], by rw [rc_l h1, rc_l hj, (c1 z).2]⟩, fun z => ⟨by rw [wr_l h1, wr_l hj, (c2 z).1], by rw [rc_l h1, rc_l hj, (c2 z).2]⟩⟩
    · rw [List.getElem?_append_right (by omega), hl] at h
      by_cases h2 : i = l.size
      · subst h2
        rw [Nat.sub_self] at h
        have : p = q := by simpa using h
        exact .inl ⟨this.symm, wr_m, rc_m⟩
      · obtain ⟨k, e⟩ : ∃ k, i = l.size + 1 + k := ⟨i - l.size - 1, by omega⟩
        subst e
        rw [show l.size + 1 + k - l.size = k + 1 by omega, List.getElem?_cons_succ] at h
        have hk : k < r.size := by
          have := (List.getElem?_eq_some_iff.mp h).1
          rw [T.par_len] at this; exact this
        refine .inr ?_
        rcases up r (off + l.size + 1) (off + l.size) k q h with ⟨e, e1, e2⟩ | ⟨j, e, hj, hne, c1, c2⟩
        · exact ⟨l.size, e, by simp only [T.size]; omega, by omega, fun z => by omega, fun _ => ⟨by rw [wr_r, wr_m, e1], by rw [rc_r hk, rc_m, e2]⟩⟩
        · exact ⟨l.size + 1 + j, by rw [e]; omega, by simp only [T.size]; omega, by omega, fun z => ⟨by rw [wr_r, wr_r, (c1 (by omega)).1], by rw [rc_r hk, rc_r hj, (c1 (by omega)).2]⟩, fun z => ⟨by rw [wr_r, wr_r, (c2 (by omega)).1], by rw [rc_r hk, rc_r hj, (c2 (by omega)).2]⟩⟩
theorem wr_pos {t : T} {i : Nat} (h : i < t.size) : 1 ≤ t.wr.getD i 0 := by
  induction t generalizing i with
  | nil => simp [T.size] at h
  | node l r ihl ihr =>
    by_cases h1 : i < l.size
    · rw [wr_l h1]; omega
    · by_cases h2 : i = l.size
      · subst h2; rw [wr_m]; exact Nat.le_refl _
      · obtain ⟨k, e⟩ : ∃ k, i = l.size + 1 + k := ⟨i - l.size - 1, by omega⟩
        subst e
        rw [wr_r]; exact ihr (by simp only [T.size] at h; omega)
theorem rc_posD {t : T} {i : Nat} (h : i < t.size) : 1 ≤ t.rc.getD i 0 := by
  have := List.getElem?_eq_getElem (show i < t.rc.length by rw [T.rc_len]; exact h)
  rw [List.getD_eq_getElem?_getD, this]
  exact rc_pos t i _ this

/-! ### mirrors -/
def mirN (N : Int) (q : Int) : Int := if q = -1 then -1 else N - 1 - q
theorem mir_size : ∀ t : T, t.mir.size = t.size
  | .nil => rfl
  | .node l r => by simp [T.mir, T.size, mir_size l, mir_size r]; omega
theorem mir_par : ∀ (s : T) (N off p : Int), 0 ≤ off → ((s.par off p).reverse).map (mirN N) = s.mir.par (N - off - s.size) (mirN N p)
  | .nil, _, _, _, _ => rfl
  | .node l r, N, off, p, h => by
    simp only [T.par, T.mir, List.reverse_append, List.reverse_cons, List.map_append, List.map_cons, List.map_nil]
    rw [mir_par l N off (off + l.size) h, mir_par r N (off + l.size + 1) (off + l.size) (by omega), mir_size]
    have e1 : mirN N (off + l.size) = N - 1 - (off + l.size) := by unfold mirN; rw [if_neg (by omega)]
    rw [e1]
    have e2 : N - off - ((T.node l r).size : Int) = N - (off + l.size + 1) - r.size := by simp only [T.size]; omega
    rw [e2]
    have e3 : N - (off + ↑l.size + 1) - ↑r.size + ↑r.size = N - 1 - (off + ↑l.size) := by omega
    rw [e3, show N - 1 - (off + (l.size : Int)) + 1 = N - off - l.size by omega]
    simp
theorem mir_parOf (t : T) : t.mir.parOf = (t.parOf.reverse).map (mirN t.size) := by
  unfold T.parOf
  rw [mir_par t t.size 0 (-1) (by omega)]
  rw [show ((t.size : Int) - 0 - t.size) = 0 by omega]
  rfl
theorem mir_wr : ∀ t : T, t.mir.wr = t.rc.reverse
  | .nil => rfl
  | .node l r => by simp [T.mir, T.wr, T.rc, mir_wr l, mir_wr r]
theorem mir_rc : ∀ t : T, t.mir.rc = t.wr.reverse
  | .nil => rfl
  | .node l r => by simp [T.mir, T.wr, T.rc, mir_rc l, mir_rc r]
theorem mir_mir : ∀ t : T, t.mir.mir = t
  | .nil => rfl
  | .node l r => by simp [T.mir, mir_mir l, mir_mir r]

/-! ### parents of a joined tree -/
theorem par_below {N : Int} : ∀ (s : T) (off p : Int), 0 ≤ off → (s.par off p).map (fun q => if q = -1 then N else q) = s.par off (if p = -1 then N else p)
  | .nil, _, _, _ => rfl
  | .node l r, off, p, h => by
    simp only [T.par, List.map_append, List.map_cons]
    rw [par_below l off _ h, par_below r (off + l.size + 1) _ (by omega), if_neg (by omega : ¬ off + (l.size : Int) = -1)]
theorem par_beyond {N : Int} : ∀ (s : T) (off p : Int), 0 ≤ off → (s.par off p).map (fun q => if q = -1 then N else q + N + 1) = s.par (off + N + 1) (if p = -1 then N else p + N + 1)
  | .nil, _, _, _ => rfl
  | .node l r, off, p, h => by
    simp only [T.par, List.map_append, List.map_cons]
    rw [par_beyond l off _ h, par_beyond r (off + l.size + 1) _ (by omega), if_neg (by omega : ¬ off + (l.size : Int) = -1)]
    have e1 : off + (l.size : Int) + N + 1 = off + N + 1 + l.size := by omega
    have e2 : off + (l.size : Int) + 1 + N + 1 = off + N + 1 + l.size + 1 := by omega
    rw [e1, e2]
theorem parOf_node (s u : T) : (T.node s u).parOf = s.parOf.map (fun q => if q = -1 then (s.size : Int) else q) ++ [-1] ++ u.parOf.map (fun q => if q = -1 then (s.size : Int) else q + s.size + 1) := by
  unfold T.parOf
  rw [par_below s 0 (-1) (by omega), par_beyond u 0 (-1) (by omega)]
  simp only [T.par]
  simp
theorem parOf_root (s u : T) : (T.node s u).parOf[s.size]? = some (-1) := by
  have := sub_root (t := T.node s u) .root
  simpa using this
theorem parOf_first {s u : T} {m : Nat} (h : m < s.size) : (T.node s u).parOf[m]? ≠ some (-1) := fun e => by
  rcases par_in _ _ _ _ _ e with ⟨l, r, e1, e2, _⟩ | ⟨h1, _, _⟩
  · cases e1; omega
  · omega

/-! ### runs as lists of flushes -/
theorem stk_pair : ∀ (t : T) (off j : Nat), j + 1 ≤ t.runs → (t.stk off)[t.runs - (j + 1)]? = some (off + t.start (j + 1), off + t.start j)
  | .nil, _, _, h => by simp [T.runs] at h
  | .node l r, off, j, h => by
    by_cases e : j = r.runs
    · subst e
      have e1 : (T.node l r).runs = r.runs + 1 := by simp [T.runs]; omega
      rw [e1, Nat.sub_self, ← e1, T.start_eq, T.start_node (Nat.le_refl _), T.start_eq]
      rfl
    · have h1 : j + 1 ≤ r.runs := by simp [T.runs] at h; omega
      have e1 : (T.node l r).runs - (j + 1) = (r.runs - (j + 1)) + 1 := by simp [T.runs]; omega
      rw [e1, T.start_node h1, T.start_node (by omega)]
      simp only [T.stk, List.getElem?_cons_succ]
      rw [stk_pair r (off + l.size + 1) j h1]
      congr 2 <;> omega
theorem start_anti : ∀ (t : T) (j : Nat), j + 1 ≤ t.runs → t.start (j + 1) < t.start j
  | .nil, _, h => by simp [T.runs] at h
  | .node l r, j, h => by
    by_cases e : j = r.runs
    · subst e
      have e1 : (T.node l r).runs = r.runs + 1 := by simp [T.runs]; omega
      rw [← e1, T.start_eq, T.start_node (Nat.le_refl _), T.start_eq]
      omega
    · have h1 : j + 1 ≤ r.runs := by simp [T.runs] at h; omega
      rw [T.start_node h1, T.start_node (by omega)]
      have := start_anti r j h1
      omega
/-- the flushes of [a, b) -/
def seg (a b : Nat) : List Nat := List.range' a (b - a)
theorem seg_app {a b c : Nat} (h1 : a ≤ b) (h2 : b ≤ c) : seg a b ++ seg b c = seg a c := by
  unfold seg
  have := List.range'_append_1 (s := a) (m := b - a) (n := c - b)
  rw [show a + (b - a) = b by omega, show b - a + (c - b) = c - a by omega] at this
  exact this
theorem seg_one (a : Nat) : seg a (a + 1) = [a] := by
  unfold seg
  rw [show a + 1 - a = 1 by omega]; rfl
theorem seg_nil (a : Nat) : seg a a = [] := by unfold seg; rw [Nat.sub_self]; rfl
theorem seg_len (a b : Nat) : (seg a b).length = b - a := by unfold seg; rw [List.length_range']
theorem seg_at {a b k : Nat} (h : a + k < b) : (seg a b)[k]? = some (a + k) := by
  unfold seg
  rw [List.getElem?_range' (by omega)]
  simp
theorem stk_take_succ {t : T} {j : Nat} (off : Nat) (h : j + 1 ≤ t.runs) : (t.stk off).take (t.runs - j) = (t.stk off).take (t.runs - (j + 1)) ++ [(off + t.start (j + 1), off + t.start j)] := by
  rw [show t.runs - j = (t.runs - (j + 1)) + 1 by omega, List.take_add_one, stk_pair t off j h]; rfl
/-- adjacent, from off on -/
theorem stk_starts : ∀ (t : T) (off : Nat), (t.stk off).map (·.1) = (off :: (t.stk off).map (·.2)).dropLast
  | .nil, _ => rfl
  | .node l r, off => by
    have ih := stk_starts r (off + l.size + 1)
    simp only [T.stk, List.map_cons]
    rw [ih]; rfl
theorem stk_stops : ∀ (t : T) (off : Nat), (off :: (t.stk off).map (·.2)).getLast? = some (off + t.size)
  | .nil, off => by simp [T.stk, T.size]
  | .node l r, off => by
    have ih := stk_stops r (off + l.size + 1)
    simp only [T.stk, List.map_cons, T.size]
    rw [List.getLast?_cons_cons, ih]
    congr 1; omega
theorem stk_lt : ∀ (t : T) (off : Nat) (p : Nat × Nat), p ∈ t.stk off → off ≤ p.1 ∧ p.1 < p.2 ∧ p.2 ≤ off + t.size
  | .nil, _, _, h => by simp [T.stk] at h
  | .node l r, off, p, h => by
    simp only [T.stk] at h
    rcases List.mem_cons.mp h with rfl | h
    · simp only [T.size]; omega
    · have := stk_lt r _ p h
      simp only [T.size]; omega
end MB

set_option maxHeartbeats 4000000
namespace MB
open PySem PySem.Spec PyProof.Rows L2

/-! ### great powers -/
def CPowW (i j : Int) : Prop := 0 ≤ j ∧ (Builtin.Int.intBits i : Int) * j ≤ 2 ^ 27
theorem op_powW {X : Cx} : OpR X (binaryOp .Pow) (rI CPowW fun i j => .int (i ^ j.toNat)) := opI fun _ _ _ _ _ _ _ hc q => pow_int hc.1 hc.2 q

/-! ### xs[i] op= e -/
theorem get_list {X : Cx} : PGet X (rIxL X.K) := by
  intro pins s σ H x y v u Q I rx ry h
  obtain ⟨p, xs, i, z, rfl, rfl, hq, he, q⟩ := h
  cases rx
  obtain ⟨t, rfl⟩ := ry
  obtain ⟨its, r, pl, hz⟩ := I.list hq
  obtain ⟨j, h1, h2, h3, h4, h5⟩ := atI_get he
  obtain ⟨w, ew, rw'⟩ := r.get h2
  have hl := r.length
  have hn := line63
  have fin : EP X pins σ Q w s := ⟨z, H, I, rw', q⟩
  by_cases h0 : 0 ≤ i
  · have hj : i.toNat = j := by
      rw [seqIndex_of h0 h5] at h1
      exact Option.some.inj h1
    exact getItem_listL pl.isList h0 (by omega) (by rw [hj]; exact ew) fin
  · have hj : (i + (its.toArray.size : Int)).toNat = j := by
      rw [seqIndex_neg (by omega) h4] at h1
      rw [List.size_toArray, ← hl]
      exact Option.some.inj h1
    exact wpAny_getItem_list_neg pl.isList (by omega) (by rw [List.size_toArray] <;> omega) (by omega) (by rw [hj]; simpa using ew) fin

/-! ### sum of a tuple of ints -/
theorem ints_at : ∀ {ns : List Int} {its : List Value}, Vals (ns.map V.int) its → ∀ (i : Nat) (v : Value), its[i]? = some v → ∃ t, v = .int (ns.getD i 0) t
  | [], _, .nil, i, v, h => by simp at h
  | n :: ns, u :: us, .cons r rr, 0, v, h => by
    obtain ⟨t, rfl⟩ := r
    simp at h
    exact ⟨t, by simp [h]⟩
  | n :: ns, u :: us, .cons r rr, i + 1, v, h => by
    have := ints_at rr i v (by simpa using h)
    simpa using this
theorem preSum_getD (ns : List Int) : ∀ k, k ≤ ns.length → preSum (fun i => ns.getD i 0) k = (ns.take k).sum
  | 0, _ => by simp [preSum]
  | k + 1, h => by
    have e : ns[k]? = some (ns.getD k 0) := by
      rw [List.getElem?_eq_getElem (by omega), List.getD_eq_getElem?_getD, List.getElem?_eq_getElem (by omega)]
      rfl
    rw [preSum, preSum_getD ns k (by omega), L2.sum_take e]
def rSumT (K : PySem.W.Frag) : List V → Hp → VK → Prop := fun xs H Q => ∃ (a : Addr) (ns : List Int), xs = [V.ref a] ∧ SqT K H a (ns.map V.int) ∧ Q (.int ns.sum) H
theorem cr_sumT {X : Cx} (hc : X.calm = true) : CallR X (.builtin "sum") (rSumT X.K) := by
  intro pins s σ H vs us Q I r h
  obtain ⟨a, ns, rfl, hs, q⟩ := h
  obtain ⟨its, rv, hl, _⟩ := I.tuple hs
  rw [Vals.ref1 r]
  have hT : s.heap.IsTuple a its.toArray := hl
  have hlt : a < s.heap.objs.size := by obtain ⟨_, e, _⟩ := hl; exact Heap.lt_size e
  refine PySem.call_sum_walkG (wpAny_pyIter_tuple hT ?_)
  refine ⟨s.heap.objs.size, [s.heap.objs.size, a], [s.heap.objs.size], its.toArray.size, _, _, fun i => ns.getD i 0, rfl, Walks.tuple (A := X.A.in1) (I.ok.hd hc) _ a (Nat.ne_of_lt hlt) its.toArray, ⟨⟨_, Heap.get?_push_size _ rfl, rfl, rfl⟩, hT.at fun o e => Heap.get?_push_of_some _ e⟩, fun b hb => ?_, fun i v hv => ints_at rv i v (by simpa using hv), fun h' tk t' hk => ?_⟩
  · show b < (s.heap.push _).objs.size
    rw [Heap.size_push]
    have e : b = s.heap.objs.size ∨ b = a := by simpa using hb
    rcases e with e | e
    · rw [e]; exact Nat.lt_succ_self _
    · rw [e]; exact Nat.lt_succ_of_lt hlt
  · have el : its.toArray.size = ns.length := by rw [List.size_toArray, ← rv.length, List.length_map]
    rw [el, preSum_getD ns _ (Nat.le_refl _), List.take_length]
    refine ⟨.int ns.sum, H, I.kept fun b o e => hk b o ?_ (Heap.get?_push_of_some _ e), ⟨_, rfl⟩, q⟩
    have := Heap.lt_size e
    simp only [List.mem_singleton]
    exact Nat.ne_of_lt this

/-! ### enumerate(tuple) -/
set_option maxHeartbeats 4000000 in
theorem meets_enumerate_newT (l : Addr) (items : Array Value) (n : Nat) (dct : Option Addr) (sl : Array (Option Value)) :
    Meets (Builtin.«enumerate.__new__» ⟨[.type "enumerate", .ref l], []⟩) (fun _ R s => s.heap.get? l = some { cls := .type "tuple", dict := dct, data := .seq items n, slots := sl } ∧
      R (.ok (.ret (.ref (s.heap.push { cls := .type "tuple_iterator", data := .fields #[.ref l, .int 0 0] }).objs.size)))
        { s with heap := (s.heap.push { cls := .type "tuple_iterator", data := .fields #[.ref l, .int 0 0] }).push { cls := .type "enumerate", data := .fields #[.none, .bool false, .ref s.heap.objs.size, rawInt 0, .none, .none] } }) :=
  .of_wp fun prog w A R s h => by
    obtain ⟨hp, g, d, tk, os⟩ := s; obtain ⟨hl, h⟩ := h
    have hsub := sub_enumerate
    have hL : Heap.IsTuple (Shared.heap ⟨hp, g, d, tk, os⟩) l items := ⟨_, hl, rfl, n, rfl⟩
    wp_walk using AutoSeq1.wpAny_loadPart' hl
    refine wpAny_stack_any fun st => wpAny_pure ?_
    split
    · rename_i c _ _ _ _ _
      cases (c == Value.type "enumerate")
      · wp_walk using AutoSeq1.wpAny_loadPart' hl, wpAny_pyIter_tuple hL
        exact ⟨_, rfl, h⟩
      · wp_walk using AutoSeq1.wpAny_loadPart' hl, wpAny_pyIter_tuple hL
        exact ⟨_, rfl, h⟩
    · wp_walk using AutoSeq1.wpAny_loadPart' hl, wpAny_pyIter_tuple hL
      exact ⟨_, rfl, h⟩
section
variable {prog : Program} {w : World} {A : Around} {E : Value → Shared → Prop} {s : Shared}
theorem call_enumerate_tuple {l : Addr} {items : Array Value} {Q : Value → Shared → Prop} (hL : s.heap.IsTuple l items)
    (h : ∀ h', IsEnum h' (s.heap.objs.size + 1) s.heap.objs.size 0 .none → h'.IsTupleIter s.heap.objs.size l 0 → h'.objs.size = s.heap.objs.size + 2 →
      (∀ b o, s.heap.get? b = some o → h'.get? b = some o) → Q (.ref (s.heap.objs.size + 1)) { s with heap := h' }) :
    wpAny (model prog w) A (call (.type "enumerate") [.ref l]) Q E s := by
  obtain ⟨⟨c, dct, dt, sl⟩, hl, hc, n, hd⟩ := hL
  replace hc : c = .type "tuple" := hc
  replace hd : dt = .seq items n := hd
  subst hc hd
  refine callType_new F.called_enumerate (by decide) (F.typeCall_enumerate_1 _) (F.newCall_enumerate_1 _) (fun obj => F.args_object_init_2 obj _) F.entry_enumerate_new
    (meets_enumerate_newT l items n dct sl) ⟨hl, ?_⟩
  have hz : (s.heap.push { cls := .type "tuple_iterator", data := .fields #[.ref l, .int 0 0] }).objs.size = s.heap.objs.size + 1 := Heap.size_push ..
  show _ ∧ _
  rw [hz]
  have he : IsEnum ((s.heap.push { cls := .type "tuple_iterator", data := .fields #[.ref l, .int 0 0] }).push
      { cls := .type "enumerate", data := .fields #[.none, .bool false, .ref s.heap.objs.size, rawInt 0, .none, .none] }) (s.heap.objs.size + 1) s.heap.objs.size 0 .none := by
    have := Heap.get?_push_size (s.heap.push { cls := .type "tuple_iterator", data := .fields #[.ref l, .int 0 0] })
      (o := { cls := .type "enumerate", data := .fields #[.none, .bool false, .ref s.heap.objs.size, rawInt 0, .none, .none] }) rfl
    rw [hz] at this; exact this
  refine ⟨⟨_, he, rfl⟩, h _ he ⟨_, Heap.get?_push_of_some _ (Heap.get?_push_size _ rfl), rfl, rfl⟩ (by rw [Heap.size_push, hz]) fun b o x => Heap.get?_push_of_some _ (Heap.get?_push_of_some _ x)⟩
end
def IteT (K : PySem.W.Frag) (a : Addr) : It :=
  ⟨fun i H => ∃ (xs : List V) (x : V), SqT K H a xs ∧ xs[i]? = some x, fun i H v H' => ∃ T x, v = .ref T ∧ H T = none ∧ H' = upd H T (.tup [.int (i : Nat), x]) ∧ ∀ xs, SqT K H a xs → xs[i]? = some x, fun i H => ∃ xs : List V, SqT K H a xs ∧ xs.length = i⟩
theorem tup_ne {h : Heap} {a it : Addr} {items : Array Value} {i : Nat} (h1 : h.IsTuple a items) (h2 : h.IsTupleIter it a i) : a ≠ it := fun e => by
  obtain ⟨o, ho, hc, n, hd⟩ := h1
  obtain ⟨o', ho', hc', hd'⟩ := h2
  rw [e] at ho
  rw [ho] at ho'
  cases ho'
  rw [hd] at hd'
  cases hd'
theorem turn_enumT {P : Program} {w : World} {K : PySem.W.Frag} {elts : List Expr} {kk : Nat} {tpos : Pos} (a e it : Addr) (hae : a ≠ e) :
    Turn P w K (.Tuple elts kk tpos) (IteT K a) [e, it] e (fun i h => (∃ old, IsEnum h e it ((i : Nat) : Int) old) ∧ h.IsTupleIter it a i ∧ e ≠ it) where
  mem := by simp
  obj := fun i h st b hb => by
    obtain ⟨⟨old, he⟩, ⟨o, ho, hc, hd⟩, _⟩ := st
    have e' : b = e ∨ b = it := by simpa using hb
    rcases e' with z | z
    · rw [z]; exact ⟨_, he, fun v q => nomatch q⟩
    · rw [z]; exact ⟨o, ho, fun v q => by rw [hd] at q; cases q⟩
  keep := fun i h h' st k => let ⟨⟨old, he⟩, hi, hne⟩ := st; ⟨⟨old, k e (by simp) _ he⟩, hi.at fun o q => k it (by simp) o q, hne⟩
  item := by
    intro X hP hw hK hc i pins s σ H E I hf st hg
    subst hP hw hK
    obtain ⟨⟨old, he⟩, hit, hne⟩ := st
    obtain ⟨xs, x, hq, hx⟩ := hg
    obtain ⟨its, rv, p, hz⟩ := I.tuple hq
    have p : s.heap.IsTuple a its.toArray := p
    have hat : a ≠ it := tup_ne p hit
    have hel : e < s.heap.objs.size := Heap.lt_size he
    have hil : it < s.heap.objs.size := by obtain ⟨_, q, _⟩ := hit; exact Heap.lt_size q
    have hlen : i < its.toArray.size := by
      rw [List.size_toArray, ← rv.length]; exact (List.getElem?_eq_some_iff.mp hx).1
    refine wpAny_pyNext_enum_itemD (Draws.tuple (prog := X.prog) (w := X.w) (A := X.A.in1) (I.ok.hd hc) it a hat its.toArray) he ⟨hit, p⟩ hlen hne (by simp; exact ⟨hne, fun z => hae z.symm⟩) fun u h' tk hu ho hit' hT hsz hk => ?_
    obtain ⟨u', hu', ru'⟩ := rv.get hx
    have eu : u = u' := by
      have h1 : its[i]? = some u := by simpa using hu
      rw [h1] at hu'; exact Option.some.inj hu'
    subst eu
    refine ⟨_, rfl, wpAny_letOwnedTupleGo_enum (s := { s with heap := h', toks := tk + 1 }) ho fun h'' he' sb => ?_⟩
    have hT2 : h''.get? s.heap.objs.size = some { cls := .type "tuple", data := .seq #[.int i tk, u] } := (sb.2 _ (Nat.ne_of_gt hel)).trans hT
    have new : ObjOk X.prog X.w (upd H s.heap.objs.size (.tup [.int (i : Nat), x])) h'' s.heap.objs.size (.tup [.int (i : Nat), x]) :=
      ⟨by show 2 ≤ sizeLine; decide, [.int i tk, u], .cons ⟨_, rfl⟩ (.cons ru' .nil), ⟨_, hT2, rfl, _, rfl⟩⟩
    have I1 : Inv X pins σ (upd H s.heap.objs.size (.tup [.int (i : Nat), x])) { s with heap := h'', toks := tk + 1 } :=
      I.turnedNew (ch := [e, it]) (fun b ob hb q => (sb.2 b (fun z => hb (by simp [z]))).trans (hk b ob (fun z => hb (by simp [z])) (fun z => hb (by simp [z])) q)) hf (Nat.le_refl _) new
    refine ⟨.ref s.heap.objs.size, _, I1, rfl, ⟨_, x, rfl, I.hok.fresh (Nat.le_refl _), rfl, fun ys hy => by rw [I.tuple_inj hy hq]; exact hx⟩, ⟨⟨u, ?_⟩, hit'.1.at fun o q => (sb.2 it (Ne.symm hne)).trans q, hne⟩, fun b hb => ?_⟩
    · have e1 : ((i + 1 : Nat) : Int) = (i : Int) + 1 := by omega
      rw [e1]; exact he'
    · have hb' : b < s.heap.objs.size := by
        have e' : b = e ∨ b = it := by simpa using hb
        rcases e' with z | z
        · rw [z]; exact hel
        · rw [z]; exact hil
      rw [upd_ne (Nat.ne_of_lt hb')]
      exact (hf b hb).1
  done := by
    intro X hP hw hK hc i pins s σ H E I hf st hg
    subst hP hw hK
    obtain ⟨⟨old, he⟩, hit, hne⟩ := st
    obtain ⟨xs, hq, hx⟩ := hg
    obtain ⟨its, rv, p, hz⟩ := I.tuple hq
    have p : s.heap.IsTuple a its.toArray := p
    have hat : a ≠ it := tup_ne p hit
    obtain ⟨f0, f1, f2, f3, f4, f5⟩ := hf it (by simp)
    have hlen : its.toArray.size = i := by rw [List.size_toArray, ← rv.length, hx]
    refine wpAny_pyNext_enum_endD (Draws.tuple (prog := X.prog) (w := X.w) (A := X.A.in1) (I.ok.hd hc) it a hat its.toArray) he ?_ fun h' eb => ⟨rfl, I.turned (t' := s.toks) (fun b o hb q => eb b o hb q) f0 f1 f3 f4 f5⟩
    rw [hlen]
    exact ⟨hit, p⟩
  self := fun A i s Q E st h => let ⟨⟨_, he⟩, _⟩ := st; wpAny_pyIter_enum he h
def iEnumT (K : PySem.W.Frag) (ta : TA) : TI := fun σ H R => ta σ H fun vs H1 => ∃ a xs, vs = [.ref a] ∧ SqT K H1 a xs ∧ R (IteT K a) H1
theorem pi_enumT {X : Cx} {e : Expr} {ta : TA} {p pos tpos : Pos} {elts : List Expr} {kk : Nat} (hg : Gl X "enumerate") (hm : X.mg "enumerate" = none) (ha : PA X [e] ta) (hs : starEach [e] X.env = [(false, eval e X.env)] := by rfl) :
    PI X (.Tuple elts kk tpos) (.Call (.Name "enumerate" p) [e] [] pos) (iEnumT X.K ta) := by
  refine ⟨fun pins s σ H R I h => ?_⟩
  refine Call_ (ld_blt I hg hm boot_enumerate (PyProof.Rows.callWith_type1 (thn (ha.run pos pins s σ H _ I h) fun us s1 ⟨vs, H1, I1, r1, q1⟩ => ?_) hs rfl))
  obtain ⟨a, xs, ex, hq, q⟩ := q1
  subst ex
  cases r1 with
  | cons r rr =>
    cases rr
    cases r
    obtain ⟨its, rv, p', hz⟩ := I1.tuple hq
    have hlt : a < s1.heap.objs.size := by obtain ⟨_, e, _⟩ := p'; exact Heap.lt_size e
    refine call_enumerate_tuple p' fun h' he hit hsz hk => wpAny_pyIter_enum he ?_
    have I2 : Inv X pins σ H1 { s1 with heap := h' } := I1.kept (t' := s1.toks) hk
    refine ⟨s1.heap.objs.size + 1, [s1.heap.objs.size + 1, s1.heap.objs.size], _, _, H1, rfl, I2, turn_enumT a (s1.heap.objs.size + 1) s1.heap.objs.size (Nat.ne_of_lt (Nat.lt_succ_of_lt hlt)), ⟨⟨.none, he⟩, hit, Nat.succ_ne_self _⟩, fun b hb => ?_, q⟩
    have e' : b = s1.heap.objs.size + 1 ∨ b = s1.heap.objs.size := by simpa using hb
    have hle : s1.heap.objs.size ≤ b := by
      rcases e' with z | z
      · rw [z]; exact Nat.le_add_right _ _
      · rw [z]; exact Nat.le_refl _
    exact I1.fpOk hle (I1.hok.fresh hle)
theorem walk_enumT {K : PySem.W.Frag} {a : Addr} {xs : List V} : Walk (IteT K a) xs.length (fun H => SqT K H a xs) (YPair (fun i => some (.int (i : Nat))) (fun i => xs[i]?)) := by
  refine ⟨fun i H hi hG => ⟨xs, xs[i], hG, List.getElem?_eq_getElem hi⟩, fun H hG => ⟨xs, hG, rfl⟩, fun i H x H' hi hG y => ?_⟩
  obtain ⟨T, x, e1, e2, e3, e4⟩ := y
  exact ⟨T, _, x, e1, e2, e3, rfl, e4 xs hG⟩

/-! ### tuple.index of an int -/
theorem flat_ints (ns : List Int) : (ns.map V.int).all flatV = true := by
  rw [List.all_map]
  exact List.all_eq_true.mpr fun _ _ => rfl
theorem mt_tindex {X : Cx} : MtR X "tuple.index" (fun x xs H Q => ∃ p, ∃ ys : List Int, ∃ z j, x = .ref p ∧ xs = [.int z] ∧ SqT X.K H p (ys.map V.int) ∧ ys[j]? = some z ∧ (∀ m, m < j → ys[m]? ≠ some z) ∧ Q (.int (j : Nat)) H) := by
  intro pins s σ H x xs v us Q I rx rs h
  obtain ⟨p, ys, z, j, rfl, rfl, hq, hy, hno, q⟩ := h
  cases rx
  obtain ⟨u, rfl, t, rfl⟩ := vals1 rs
  obtain ⟨its, r, pl, hz⟩ := I.tuple hq
  obtain ⟨⟨cls, dd, dt, sl⟩, ho, hc, n, hd⟩ := pl
  simp only at hc hd
  subst hc
  subst hd
  have hl : its.toArray.size = ys.length := by rw [List.size_toArray, ← r.length, List.length_map]
  have hj : j < its.toArray.size := by rw [hl]; exact (List.getElem?_eq_some_iff.mp hy).1
  have at' : ∀ (m : Nat) (hm : m < its.toArray.size), ∃ y t', ys[m]? = some y ∧ its.toArray[m] = Value.int y t' := fun m hm => by
    have hm' : m < ys.length := by rw [← hl]; exact hm
    obtain ⟨w, hw, t', hw'⟩ := r.get (i := m) (x := .int ys[m]) (by simp [hm'])
    refine ⟨ys[m], t', List.getElem?_eq_getElem hm', ?_⟩
    have e := (List.getElem?_eq_some_iff.mp hw).2
    rw [← hw', ← e]
    simp
  refine call_meets PySem.F.slot_tuple_index ⟨_, ho, rfl⟩ PySem.F.entry_tuple_index (PySem.F.args_tuple_index_2 _ _) (TI.tuple_indexAt p its.toArray n dd sl (.int z t) (eqU (.int z)) j hj ?_ ?_)
    ⟨ho, fun w hw => mem_eqAt (x := .int z) ⟨t, rfl⟩ rfl r (flat_ints ys) w (by simpa using hw), ⟨.int (j : Nat), H, I.tok _, ⟨_, rfl⟩, q⟩⟩
  · obtain ⟨y, t', h1, h2⟩ := at' j hj
    rw [hy] at h1
    cases h1
    rw [h2]
    show (z == z) = true
    exact beq_self_eq_true z
  · intro m hm hmj
    obtain ⟨y, t', h1, h2⟩ := at' m hm
    rw [h2]
    show (y == z) = false
    exact beq_eq_false_iff_ne.mpr fun e => hno m hmj (e ▸ h1)

/-! ### rules by the written part K itself (for a comprehension's block) -/
def rLen (K : PySem.W.Frag) : List V → Hp → VK → Prop := fun xs H Q => ∃ p ys, xs = [.ref p] ∧ (SqL K H p ys ∨ SqT K H p ys) ∧ Q (.int ys.length) H
def rTupOf (K : PySem.W.Frag) : List V → Hp → VK → Prop := fun xs H Q => ∃ p ys, xs = [.ref p] ∧ ((SqL K H p ys ∧ ∀ l, H l = none → Q (.ref l) (upd H l (.tup ys))) ∨ (SqT K H p ys ∧ Q (.ref p) H))
def rListOf (K : PySem.W.Frag) : List V → Hp → VK → Prop := fun xs H Q => ∃ p ys, xs = [.ref p] ∧ (SqL K H p ys ∨ SqT K H p ys) ∧ ∀ l, H l = none → Q (.ref l) (upd H l (.lst ys))
section
variable {X : Cx} {K : PySem.W.Frag}
theorem k_len (hK : X.K = K) : CallR X (.builtin "len") (rLen K) := by subst hK; exact call_len_seq
theorem k_tupOf (hK : X.K = K) : CallR X (.type "tuple") (rTupOf K) := by subst hK; exact call_tuple_of
theorem k_listOf (hK : X.K = K) : CallR X (.type "list") (rListOf K) := by subst hK; exact call_list_of
theorem k_isi (hK : X.K = K) : CallR X (.builtin "isinstance") (rIsi K) := by subst hK; exact call_isi
theorem k_ixT (hK : X.K = K) : IxR X (rIxT K) := by subst hK; exact ix_tup
theorem k_ixL (hK : X.K = K) : IxR X (rIxL K) := by subst hK; exact ix_list
theorem k_slT (hK : X.K = K) : SlR X (rSlA K) := by subst hK; exact sl_tupA
theorem k_catT (hK : X.K = K) : OpR X (binaryOp .Add) (rCatA K) := by subst hK; exact op_catA
theorem k_sumT (hK : X.K = K) (hc : X.calm = true) : CallR X (.builtin "sum") (rSumT K) := by subst hK; exact cr_sumT hc
end

/-! ### a statement, then the rest, with a word between them -/
def tCut (t u : TS) : TS := fun D σ H => ∃ Mid : L2.St → Hp → Prop, t { D with nx := Mid } σ H ∧ ∀ σ' H', Mid σ' H' → u D σ' H'
theorem pss_cut {X : Cx} {st : Stmt} {rest : List Stmt} {t u : TS} (h1 : PS X st t) (h2 : PSs X rest u) : PSs X (st :: rest) (tCut t u) := by
  refine ⟨fun pins s σ H D I h => ?_⟩
  obtain ⟨Mid, hm, hu⟩ := h
  refine wpAny_execs_cons (thn (h1.run pins s σ H { D with nx := Mid } I hm) fun f s1 q => ?_)
  cases f with
  | next =>
    obtain ⟨σ', H', I', q⟩ := q
    exact h2.run pins s1 σ' H' D I' (hu σ' H' q)
  | ret v => exact q
  | brk => exact q
  | cont => exact q

/-! ### a tuple that is known to be plain; its method index -/
def rTupOfZ (K : PySem.W.Frag) : List V → Hp → VK → Prop := fun xs H Q => ∃ p ys, xs = [.ref p] ∧ SqL K H p ys ∧ ∀ l o, H l = none → o.dict = none → Q (.ref l) (upd H l (.frz o (.tup ys)))
theorem k_tupOfZ {X : Cx} {K : PySem.W.Frag} (hK : X.K = K) : CallR X (.type "tuple") (rTupOfZ K) := by
  subst hK
  intro pins s σ H xs us Q I r h
  obtain ⟨p, ys, rfl, hq, q⟩ := h
  obtain ⟨u, rfl, rx⟩ := vals1 r
  cases rx
  obtain ⟨its, r', pl, hz⟩ := I.list hq
  have hlen := r'.length
  refine call_tuple_list pl.isList (fun h' kp => ?_) (by simp only [List.size_toArray] <;> omega)
  have I1 : Inv X pins σ H { s with heap := h' } := I.kept (t' := s.toks) kp
  have I2 : Inv X pins σ (upd H h'.objs.size (.frz { cls := .type "tuple", data := .seq its.toArray } (.tup ys))) { s with heap := h'.push { cls := .type "tuple", data := .seq its.toArray } } :=
    I1.laid (t' := s.toks) (fun b o e => Heap.get?_push_of_some _ e) (Nat.le_refl _) (show ObjOk X.prog X.w _ _ _ (.frz _ (.tup ys)) from ⟨Heap.get?_push_size _ rfl, hz, its, r', IsTup.new _ _⟩)
  exact ⟨.ref h'.objs.size, _, I2, rfl, q _ _ (I1.hok.fresh (Nat.le_refl _)) rfl⟩
def tTM (r : V → List V → Hp → VK → Prop) (to : TE) (t : TA) : TE := fun σ H Q => to σ H fun x H1 => (∃ a ob xs, x = .ref a ∧ H1 a = some (.frz ob (.tup xs)) ∧ ob.dict = none) ∧ t σ H1 fun xs H2 => r x xs H2 Q
theorem pe_tm {X : Cx} {o e : Expr} {es : List Expr} {to : TE} {t : TA} {name : Str} {apos cpos : Pos} {id : String} {r : V → List V → Hp → VK → Prop} (slot : Slot "tuple" name id) (hty : typeOf (.builtin id) = pure (.type "method_descriptor")) (hm : MtR X id r) (ho : PE X o to) (ha : PA X (e :: es) t)
    (hbase : attributeBase o name X.env (eval o X.env) = eval o X.env := by rfl)
    (hfew : ((backTo cpos (starEach (e :: es) X.env)).all (fun x => !x.1) && (backToKw cpos (keywordEach [] X.env)).all (fun x => x.1.isSome)
      && decide ((e :: es).length + ([] : List Keyword).length + (if ([] : List Keyword).isEmpty then 0 else 1) < 30)) = true := by rfl)
    (hline : (apos.endLine == cpos.line) = true := by rfl) (hs : starEach (e :: es) X.env = (false, eval e X.env) :: starEach es X.env := by rfl) (hplain : (backTo cpos (starEach es X.env)).any (·.1) = false := by rfl) :
    PE X (.Call (.Attribute o name apos) (e :: es) [] cpos) (tTM r to t) := by
  refine ⟨fun pins s σ H Q I h => ?_⟩
  refine wpAny_Call_method_late hbase hfew hline rfl (thn (ho.run pins s σ H _ I h) fun v s1 ⟨x, H1, I1, r1, ty, q1⟩ => ?_)
  obtain ⟨a, ob, xs, rfl, hf, hd⟩ := ty
  cases r1
  obtain ⟨hg, hz, its, rv, o', ho', hc, _⟩ := (show ObjOk X.prog X.w H1 s1.heap a (.frz ob (.tup xs)) from I1.hok a _ hf)
  have hc' : ob.cls = .type "tuple" := by rw [hg] at ho'; cases ho'; exact hc
  refine ⟨"tuple", id, PySem.F.plainAttrs_tuple, slot, hty, ⟨ob, hg, hc'⟩, fun b e => by cases e; exact ⟨ob, hg, hd⟩, ?_⟩
  have hA := ha.run cpos pins s1 σ H1 _ I1 q1
  rw [hs] at hA ⊢
  refine Calls.callWith_builtin (by show (false || (backTo cpos (starEach es X.env)).any (·.1)) = false; rw [hplain] <;> rfl) (Calls.evalArgs_plain ?_)
  exact thn hA fun us s2 ⟨vs, H2, I2, r2, q2⟩ => hm pins s2 σ H2 (.ref a) vs (.ref a) us Q I2 rfl r2 q2

/-! ### places in the text -/
def xAsg : Stmt → Expr
  | .Assign _ e _ => e
  | _ => .Constant .none 0 ⟨0, 0, 0, 0⟩
def xArg (i : Nat) : Expr → Expr
  | .Call _ as _ _ => as.getD i (.Constant .none 0 ⟨0, 0, 0, 0⟩)
  | _ => .Constant .none 0 ⟨0, 0, 0, 0⟩
def xLcSc : Expr → Scope
  | .ListComp _ _ sc _ => sc
  | _ => { kind := .function, names := [], isGenerator := false, isCoroutine := false }
/-! ### readings are monotone -/
theorem mono_pair {K : PySem.W.Frag} {n i j : Nat} (x : V) (σ' : L2.St) (H' : Hp) (Q Q' : L2.St → Hp → Prop) (h : ∀ a b, Q a b → Q' a b) (e : gTup K n (gCons (gName i) (gCons (gName j) gNil)) x σ' H' Q) : gTup K n (gCons (gName i) (gCons (gName j) gNil)) x σ' H' Q' := by
  obtain ⟨a, xs, e1, e2, e3, v, r, e4, v', r', e5, e6, q⟩ := e
  exact ⟨a, xs, e1, e2, e3, v, r, e4, v', r', e5, e6, h _ _ q⟩

section
variable {X : Cx} {K : PySem.W.Frag}
theorem k_piL {tg l : Expr} {tl : TE} (hK : X.K = K) (hl : PE X l tl) : PI X tg l (iList K tl) := by subst hK; exact pi_list hl
theorem k_piT {tg l : Expr} {tl : TE} (hK : X.K = K) (hl : PE X l tl) : PI X tg l (iTup K tl) := by subst hK; exact pi_tup hl
theorem k_pgT2 {x y : Str} {px py : Pos} {k : Nat} {pos : Pos} {t1 t2 : TG} (hK : X.K = K) (hc : X.calm = true) (h1 : PG X (.Name x px) t1) (h2 : PG X (.Name y py) t2) : PG X (.Tuple [.Name x px, .Name y py] k pos) (gTup K 2 (gCons t1 (gCons t2 gNil))) := by
  subst hK
  exact pg_tup hc (pgs_cons h1 (pgs_cons h2 pgs_nil))
end
end MB

set_option maxHeartbeats 4000000
namespace MB
open PySem PySem.Spec PyProof.Rows L2

/-! ### heaps -/
theorem same_upd {H : Hp} {p : Addr} {o : HO} (h : H p = none) : Same H (upd H p o) := fun b x e => by
  rw [upd_ne (ne_of_none e h)]
  exact e
/-- an object that was not tracked may change -/
theorem Same.mut {H H' : Hp} {p : Addr} {o : HO} (s : Same H H') (h : H p = none) : Same H (upd H' p o) := fun b x e => by
  rw [upd_ne (ne_of_none e h)]
  exact s _ _ e
theorem Same.tup {K : PySem.W.Frag} {H H' : Hp} {a : Addr} {xs : List V} (e : Same H H') (h : SqT K H a xs) : SqT K H' a xs := by
  rcases h with (h | ⟨o, h⟩) | h
  · exact .inl (.inl (e _ _ h))
  · exact .inl (.inr ⟨o, e _ _ h⟩)
  · exact .inr h
theorem Same.tupF {K : PySem.W.Frag} {H H' : Hp} {a : Addr} {o : Obj} {xs : List V} (e : Same H H') (h : H a = some (.frz o (.tup xs))) : SqT K H' a xs := .inl (.inr ⟨o, e _ _ h⟩)
theorem Dp.same {K : PySem.W.Frag} {H H' : Hp} (e : Same H H') : ∀ {v : V} {d : PyData}, Dp K H v d → Dp K H' v d := by
  intro v d h
  refine Dp.rec (motive_1 := fun v d _ => Dp K H' v d) (motive_2 := fun vs ds _ => DpAll K H' vs ds) ?_ ?_ ?_ ?_ ?_ ?_ ?_ ?_ h
  · exact .non
  · intro b; exact .bl b
  · intro i; exact .int i
  · intro x; exact .str x
  · intro a xs ds hs _ ih; exact .lst (e.seq hs) ih
  · intro a xs ds hs _ ih; exact .tup (Same.tup e hs) ih
  · exact .nil
  · intro v vs d ds _ _ h1 h2; exact .cons h1 h2
theorem DpAll.get {K : PySem.W.Frag} {H : Hp} : ∀ {vs : List V} {ds : List PyData}, DpAll K H vs ds → ∀ {i : Nat} {d : PyData}, ds[i]? = some d → ∃ v, vs[i]? = some v ∧ Dp K H v d
  | _, _, .nil, i, d, h => by simp at h
  | _, _, .cons a b, 0, d, h => by
    simp at h; subst h
    exact ⟨_, rfl, a⟩
  | _, _, .cons a b, i + 1, d, h => by
    obtain ⟨v, h1, h2⟩ := DpAll.get b (i := i) (d := d) (by simpa using h)
    exact ⟨v, by simpa using h1, h2⟩
theorem DpAll.len {K : PySem.W.Frag} {H : Hp} : ∀ {vs : List V} {ds : List PyData}, DpAll K H vs ds → vs.length = ds.length
  | _, _, .nil => rfl
  | _, _, .cons a b => by simp [DpAll.len b]
theorem DpAll.take {K : PySem.W.Frag} {H : Hp} : ∀ {vs : List V} {ds : List PyData} (n : Nat), DpAll K H vs ds → DpAll K H (vs.take n) (ds.take n)
  | _, _, 0, _ => .nil
  | _, _, _ + 1, .nil => .nil
  | _, _, n + 1, .cons a b => .cons a (DpAll.take n b)
theorem DpAll.append {K : PySem.W.Frag} {H : Hp} : ∀ {vs ws : List V} {ds es : List PyData}, DpAll K H vs ds → DpAll K H ws es → DpAll K H (vs ++ ws) (ds ++ es)
  | _, _, _, _, .nil, s => s
  | _, _, _, _, .cons a b, s => .cons a (DpAll.append b s)
theorem DpAll.same {K : PySem.W.Frag} {H H' : Hp} (e : Same H H') : ∀ {vs : List V} {ds : List PyData}, DpAll K H vs ds → DpAll K H' vs ds
  | _, _, .nil => .nil
  | _, _, .cons a b => .cons (Dp.same e a) (DpAll.same e b)
theorem dp_ints {K : PySem.W.Frag} {H : Hp} : ∀ ns : List Int, DpAll K H (ns.map V.int) (ns.map PyData.int)
  | [] => .nil
  | n :: ns => .cons (.int n) (dp_ints ns)
theorem ty_tup {K : PySem.W.Frag} {H : Hp} {a : Addr} {xs : List V} (h : SqT K H a xs) : TyX K H (.ref a) (.type "tuple") := by
  rcases h with (h | ⟨o, h⟩) | ⟨o, its, n, h, hc, _⟩
  · exact .base (.tup h)
  · exact .fTuple h
  · exact .kTuple h hc

/-! ### lists of numbers -/
def vi (p : List Nat) : List V := p.map fun (m : Nat) => V.int (m : Int)
def ci (p : List Nat) : List Int := p.map fun (m : Nat) => (m : Int)
theorem vi_ci (p : List Nat) : vi p = (ci p).map V.int := by simp [vi, ci]
theorem vi_len (p : List Nat) : (vi p).length = p.length := by simp [vi]
theorem vi_get {p : List Nat} {i m : Nat} (h : p[i]? = some m) : (vi p)[i]? = some (.int (m : Int)) := by simp [vi, h]
theorem vi_app (p q : List Nat) : vi (p ++ q) = vi p ++ vi q := by simp [vi]
theorem at_vi {p : List Nat} {i m : Nat} (h : p[i]? = some m) : atI (vi p) (i : Int) = some (.int (m : Int)) := atI_nat (vi_get h)
theorem sz60 {n : Nat} (h : n ≤ 100000) : n ≤ sizeLine := Nat.le_trans h (by decide)
theorem sz61 {n : Nat} (h : n ≤ 100000) : n < sizeLine := Nat.lt_of_le_of_lt h (by decide)
theorem decT {c : Prop} [Decidable c] (h : c) {A B : Prop} (a : A) : if decide c = true then A else B := by
  rw [if_pos (decide_eq_true h)]; exact a
theorem decF {c : Prop} [Decidable c] (h : ¬ c) {A B : Prop} (b : B) : if decide c = true then A else B := by
  rw [if_neg (by simp [h])]; exact b

/-! ### data of tuples: no list within -/
inductive Tf : PyData → Prop
  | non : Tf .none
  | bl (b : Bool) : Tf (.bool b)
  | int (i : Int) : Tf (.int i)
  | str (x : Str) : Tf (.str x)
  | tup {ds : List PyData} : (∀ d, d ∈ ds → Tf d) → Tf (.tuple ds)
theorem Tf.items {ds : List PyData} (h : Tf (.tuple ds)) : ∀ d, d ∈ ds → Tf d := by
  cases h with
  | tup h => exact h
theorem tf_ints (ns : List Int) : ∀ d, d ∈ ns.map PyData.int → Tf d := fun d h => by
  obtain ⟨i, _, rfl⟩ := List.mem_map.mp h
  exact .int i
/-- all tuples stay -/
def Keep (K : PySem.W.Frag) (H H' : Hp) : Prop := ∀ a xs, SqT K H a xs → SqT K H' a xs
theorem Keep.of {K : PySem.W.Frag} {H H' : Hp} (s : Same H H') : Keep K H H' := fun _ _ h => Same.tup s h
theorem Keep.trans {K : PySem.W.Frag} {H H1 H2 : Hp} (a : Keep K H H1) (b : Keep K H1 H2) : Keep K H H2 := fun _ _ h => b _ _ (a _ _ h)
theorem Keep.refl {K : PySem.W.Frag} {H : Hp} : Keep K H H := fun _ _ h => h
/-- all but the list at l stay -/
def But (l : Addr) (H H' : Hp) : Prop := ∀ b o, b ≠ l → H b = some o → H' b = some o
theorem But.refl {l : Addr} {H : Hp} : But l H H := fun _ _ _ h => h
theorem But.trans {l : Addr} {H H1 H2 : Hp} (a : But l H H1) (b : But l H1 H2) : But l H H2 := fun c o n h => b c o n (a c o n h)
theorem But.of {l : Addr} {H H' : Hp} (s : Same H H') : But l H H' := fun c o _ h => s c o h
theorem But.upd {l : Addr} {H : Hp} {o : HO} : But l H (L2.upd H l o) := fun c u n h => by rw [upd_ne n]; exact h
theorem But.keep {K : PySem.W.Frag} {l : Addr} {H H' : Hp} {ys : List V} (s : But l H H') (hl : H l = some (.lst ys)) : Keep K H H' := fun a xs h => by
  rcases h with (h | ⟨o, h⟩) | h
  · exact .inl (.inl (s _ _ (fun e => by rw [e, hl] at h; cases h) h))
  · exact .inl (.inr ⟨o, s _ _ (fun e => by rw [e, hl] at h; cases h) h⟩)
  · exact .inr h
theorem But.same {l : Addr} {H0 H H' : Hp} (s : Same H0 H) (b : But l H H') (n : H0 l = none) : Same H0 H' := fun c o e => b c o (ne_of_none e n) (s c o e)
theorem Dp.keep {K : PySem.W.Frag} {H H' : Hp} (e : Keep K H H') : ∀ {v : V} {d : PyData}, Tf d → Dp K H v d → Dp K H' v d := by
  intro v d t h
  refine Dp.rec (motive_1 := fun v d _ => Tf d → Dp K H' v d) (motive_2 := fun vs ds _ => (∀ d, d ∈ ds → Tf d) → DpAll K H' vs ds) ?_ ?_ ?_ ?_ ?_ ?_ ?_ ?_ h t
  · intro _; exact .non
  · intro b _; exact .bl b
  · intro i _; exact .int i
  · intro x _; exact .str x
  · intro a xs ds hs _ ih t; cases t
  · intro a xs ds hs _ ih t; exact .tup (e _ _ hs) (ih t.items)
  · intro _; exact .nil
  · intro v vs d ds _ _ h1 h2 t; exact .cons (h1 (t _ (List.mem_cons_self ..))) (h2 fun d hd => t d (List.mem_cons_of_mem _ hd))
theorem DpAll.keep {K : PySem.W.Frag} {H H' : Hp} (e : Keep K H H') : ∀ {vs : List V} {ds : List PyData}, (∀ d, d ∈ ds → Tf d) → DpAll K H vs ds → DpAll K H' vs ds
  | _, _, _, .nil => .nil
  | _, _, t, .cons a b => .cons (Dp.keep e (t _ (List.mem_cons_self ..)) a) (DpAll.keep e (fun d hd => t d (List.mem_cons_of_mem _ hd)) b)
theorem dp_ints_inv {K : PySem.W.Frag} {H : Hp} : ∀ {ns : List Int} {vs : List V}, DpAll K H vs (ns.map PyData.int) → vs = ns.map V.int
  | [], _, .nil => rfl
  | n :: ns, _, .cons a b => by
    cases a
    rw [dp_ints_inv b]
    rfl
theorem Dp.tupInv {K : PySem.W.Frag} {H : Hp} {v : V} {ds : List PyData} (h : Dp K H v (.tuple ds)) : ∃ a xs, v = .ref a ∧ SqT K H a xs ∧ DpAll K H xs ds := by
  cases h with
  | tup h1 h2 => exact ⟨_, _, rfl, h1, h2⟩
theorem Dp.intsInv {K : PySem.W.Frag} {H : Hp} {v : V} {ns : List Int} (h : Dp K H v (.tuple (ns.map PyData.int))) : ∃ a, v = .ref a ∧ SqT K H a (ns.map V.int) := by
  obtain ⟨a, xs, e, h1, h2⟩ := Dp.tupInv h
  rw [dp_ints_inv h2] at h1
  exact ⟨a, e, h1⟩

/-! ### a comprehension that gives an item at each turn -/
theorem lc_all {K : PySem.W.Frag} {J : It} {n : Nat} {G : Hp → Prop} {Y : Nat → Hp → V → Hp → Prop} (w : Walk J n G Y) {g : TG} {tt : TT} {te : TE} {vs : List Nat} {σ : L2.St} {H1 : Hp} {D : Addr} {Qd : Hp → Prop}
    (ds : List PyData) (hl : ds.length = n) (ht : ∀ d, d ∈ ds → Tf d) (hn : n ≤ 1000) (hD : H1 D = none) (hG : ∀ H, Same H1 H → G H)
    (hs : ∀ i x H H', i < n → Same H1 H → Y i H x H' → ∀ d, ds[i]? = some d → ∀ R : V → Hp → Prop, (∀ y H4, Same H H4 → Dp K H4 y d → R y H4) →
      g x (wipe σ vs) H' fun σ2 H2 => wipe σ2 vs = wipe σ vs ∧ tt σ2 H2 fun b H3 => b = true ∧ te σ2 H3 R)
    (hd : ∀ H acc, Same H1 H → H D = some (.lst acc) → DpAll K H acc ds → Qd H)
    (mg : ∀ x σ' H' (Q Q' : L2.St → Hp → Prop), (∀ a b, Q a b → Q' a b) → g x σ' H' Q → g x σ' H' Q') (mt : ∀ σ' H' (Q Q' : Bool → Hp → Prop), (∀ a b, Q a b → Q' a b) → tt σ' H' Q → tt σ' H' Q') :
    ∃ W : Nat → Nat → Hp → Prop, (∃ m, W 0 m (upd H1 D (.lst []))) ∧ ∀ i m H, W i m H →
      (J.stop i H ∧ Qd H) ∨ (J.go i H ∧ ∃ Nx : Hp → Prop, (∀ H', Nx H' → ∃ m', m' < m ∧ W (i + 1) m' H') ∧ ∀ x H', J.yld i H x H' → g x (wipe σ vs) H' fun σ2 H2 => wipe σ2 vs = wipe σ vs ∧ tt σ2 H2 fun b H3 =>
        if b = true then te σ2 H3 fun y H4 => ∃ acc, H4 D = some (.lst acc) ∧ acc.length < sizeLine ∧ Nx (upd H4 D (.lst (acc ++ [y]))) else Nx H3) := by
  refine lc_it w (fun i H => Same H1 H ∧ ∃ acc, H D = some (.lst acc) ∧ DpAll K H acc (ds.take i)) ⟨same_upd hD, [], upd_same, .nil⟩ (fun i H _ h => hG H h.1) ?_ ?_
  · rintro i x H H' hi ⟨s1, acc, ha, hA⟩ hy
    have hd' : ds[i]? = some ds[i] := List.getElem?_eq_getElem (by omega)
    have hlen := DpAll.len hA
    rw [List.length_take] at hlen
    refine mg _ _ _ _ _ ?_ (hs i x H H' hi s1 hy ds[i] hd' (fun y H4 => ∃ acc, H4 D = some (.lst acc) ∧ acc.length < sizeLine ∧ (Same H1 (upd H4 D (.lst (acc ++ [y]))) ∧ ∃ acc', (upd H4 D (.lst (acc ++ [y]))) D = some (.lst acc') ∧ DpAll K (upd H4 D (.lst (acc ++ [y]))) acc' (ds.take (i + 1)))) ?_)
    · rintro σ2 H2 ⟨h1, h2⟩
      refine ⟨h1, mt _ _ _ _ ?_ h2⟩
      rintro b H3 ⟨rfl, h3⟩
      exact iteT h3
    · intro y H4 s4 hy4
      refine ⟨acc, s4 _ _ ha, sz61 (by omega), Same.mut (s1.trans s4) hD, acc ++ [y], upd_same, ?_⟩
      have kp : Keep K H4 (upd H4 D (.lst (acc ++ [y]))) := But.keep But.upd (s4 _ _ ha)
      rw [List.take_add_one, hd']
      refine DpAll.keep kp (fun d h => ?_) (DpAll.append (DpAll.same s4 hA) (.cons hy4 .nil))
      rcases List.mem_append.mp h with h | h
      · exact ht d (List.mem_of_mem_take h)
      · have e : d = ds[i] := by simpa using h
        rw [e]; exact ht _ (List.getElem_mem ..)
  · rintro H ⟨s1, acc, ha, hA⟩
    rw [List.take_of_length_le (by omega)] at hA
    exact hd H acc s1 ha hA

/-! ### tuples cut and joined -/
theorem cut_to {xs : List V} {k : Nat} (h : k ≤ xs.length) : cutV xs none (some (k : Int)) = xs.take k := by
  unfold cutV
  rw [HT.sIx_none, HT.sIx_nat, Nat.min_eq_left h]
  simp
theorem cut_from {xs : List V} {k : Nat} (h : k ≤ xs.length) : cutV xs (some (k : Int)) none = xs.drop k := by
  unfold cutV
  rw [HT.sIx_none, HT.sIx_nat, Nat.min_eq_left h]
  rw [List.take_of_length_le (by rw [List.length_drop]; omega)]
theorem sl_read {K : PySem.W.Frag} {H : Hp} {a : Addr} {xs : List V} {lo hi : Option Int} {Q : VK} (h : SqT K H a xs) (q : ∀ p H', Same H H' → SqT K H' p (cutV xs lo hi) → Q (.ref p) H') : rSlA K (.ref a) lo hi H Q := by
  refine ⟨a, xs, rfl, h, fun e => q a H (Same.refl H) ?_, fun _ p hp => q p _ (same_upd hp) (.inl (.inl upd_same))⟩
  unfold cutV
  rw [e.1, e.2]
  simpa using h
theorem cat_read {K : PySem.W.Frag} {H : Hp} {a b : Addr} {xs ys : List V} {Q : VK} (ha : SqT K H a xs) (hb : SqT K H b ys) (hz : xs.length + ys.length ≤ 100000) (q : ∀ p H', Same H H' → SqT K H' p (xs ++ ys) → Q (.ref p) H') : rCatA K (.ref a) (.ref b) H Q := by
  refine ⟨a, b, xs, ys, rfl, rfl, ha, hb, sz60 hz, fun e => q b H (Same.refl H) ?_, fun _ e => q a H (Same.refl H) ?_, fun _ _ p hp => q p _ (same_upd hp) (.inl (.inl upd_same))⟩
  · rw [e]; exact hb
  · rw [e, List.append_nil]; exact ha
theorem DpAll.snoc {K : PySem.W.Frag} {H : Hp} : ∀ {vs : List V} {ds : List PyData} {d : PyData}, DpAll K H vs (ds ++ [d]) → ∃ us v, vs = us ++ [v] ∧ DpAll K H us ds ∧ Dp K H v d
  | _, [], _, .cons a .nil => ⟨[], _, rfl, .nil, a⟩
  | _, _ :: ds, _, .cons a b => by
    obtain ⟨us, v, e, h1, h2⟩ := DpAll.snoc b
    exact ⟨_ :: us, v, by rw [e]; rfl, .cons a h1, h2⟩
theorem ixN_of {n j : Nat} (hj : j < n) : ixN n (j : Int) = some j := by
  unfold ixN
  rw [if_pos (by omega), if_pos (by omega)]
  simp
theorem vi_set (c : List Nat) (k v : Nat) : (vi c).set k (.int (v : Int)) = vi (c.set k v) := by
  unfold vi
  rw [List.map_set]
theorem vi_rep (n v : Nat) : vi (List.replicate n v) = List.replicate n (.int (v : Int)) := by simp [vi]

/-! ### [x for x in range(lo, hi) if ..] -/
theorem lc_fil {lo : Int} {n j : Nat} {vs : List Nat} {σ : L2.St} {H1 : Hp} {D : Addr} {Qd : Hp → Prop} {tt : TT} (f : Nat → Bool) (hn : n ≤ 1000) (hD : H1 D = none)
    (hw : ∀ x, wipe ((wipe σ vs).set j (some x)) vs = wipe σ vs) (hj : ∀ x : V, ((wipe σ vs).set j (some x))[j]? = some (some x))
    (ht : ∀ (i : Nat) H (Q : Bool → Hp → Prop), i < n → Same H1 H → Q (f i) H → tt ((wipe σ vs).set j (some (.int (lo + (i : Nat))))) H Q)
    (hd : ∀ H, Same H1 H → H D = some (.lst (((List.range n).filter f).map fun (i : Nat) => V.int (lo + (i : Nat)))) → Qd H) :
    ∃ W : Nat → Nat → Hp → Prop, (∃ m, W 0 m (upd H1 D (.lst []))) ∧ ∀ i m H, W i m H →
      ((Itr lo n).stop i H ∧ Qd H) ∨ ((Itr lo n).go i H ∧ ∃ Nx : Hp → Prop, (∀ H', Nx H' → ∃ m', m' < m ∧ W (i + 1) m' H') ∧ ∀ x H', (Itr lo n).yld i H x H' → gName j x (wipe σ vs) H' fun σ2 H2 => wipe σ2 vs = wipe σ vs ∧ tt σ2 H2 fun b H3 =>
        if b = true then tVar j σ2 H3 fun y H4 => ∃ acc, H4 D = some (.lst acc) ∧ acc.length < sizeLine ∧ Nx (upd H4 D (.lst (acc ++ [y]))) else Nx H3) := by
  refine lc_range (lo := lo) (n := n) (fun i H => Same H1 H ∧ H D = some (.lst (((List.range i).filter f).map fun (i : Nat) => V.int (lo + (i : Nat))))) ⟨same_upd hD, upd_same⟩ ?_ ?_
  · rintro i H hi ⟨s1, h1⟩
    refine ⟨hw _, ht i H _ hi s1 ?_⟩
    have hlen : (((List.range i).filter f).map fun (i : Nat) => V.int (lo + (i : Nat))).length ≤ i := by
      rw [List.length_map]
      have := List.length_filter_le f (List.range i)
      rw [List.length_range] at this
      exact this
    by_cases hf : f i = true
    · rw [hf]
      refine iteT ⟨_, hj _, _, h1, sz61 (by omega), Same.mut s1 hD, ?_⟩
      rw [List.range_succ, List.filter_append, List.map_append]
      simp only [List.filter_cons, hf, if_true, List.filter_nil, List.map_cons, List.map_nil]
      exact upd_same
    · have hf' : f i = false := by simpa using hf
      rw [hf']
      refine iteF ⟨s1, ?_⟩
      rw [List.range_succ, List.filter_append, List.map_append]
      simpa [hf'] using h1
  · rintro H ⟨s1, h1⟩
    exact hd H s1 h1
theorem iteB1 {b : Bool} {A B : Prop} (h : b = true) (a : A) : if b = true then A else B := by rw [if_pos h]; exact a
theorem iteB0 {b : Bool} {A B : Prop} (h : b = false) (a : B) : if b = true then A else B := by rw [if_neg (by rw [h]; decide)]; exact a

/-! ### deep comparisons -/
theorem lay_all : ∀ {ds : List PyData}, (∀ d, d ∈ ds → d.canLay0 = true) → PyData.canLayAll0 ds = true
  | [], _ => by simp [PyData.canLayAll0]
  | d :: ds, h => by
    simp only [PyData.canLayAll0]
    rw [h d (List.mem_cons_self ..), lay_all fun e he => h e (List.mem_cons_of_mem _ he)]; rfl
theorem dep_all {k : Nat} : ∀ {ds : List PyData}, (∀ d, d ∈ ds → d.depth ≤ k) → PyData.depthAll ds ≤ k
  | [], _ => by simp [PyData.depthAll]
  | d :: ds, h => by
    simp only [PyData.depthAll]
    have h1 := h d (List.mem_cons_self ..)
    have h2 := dep_all (k := k) fun e he => h e (List.mem_cons_of_mem _ he)
    omega
/-- plain data of at most so many levels -/
def Sh (k : Nat) (d : PyData) : Prop := d.canLay0 = true ∧ d.depth ≤ k
theorem Sh.shaped {k : Nat} {d : PyData} (h : Sh k d) (hk : k ≤ 64) : SeqAt.shaped d = true := by
  unfold SeqAt.shaped
  rw [h.1, decide_eq_true (by have := h.2; omega)]; rfl
theorem Sh.tup {k : Nat} {ds : List PyData} (h : ∀ d, d ∈ ds → Sh k d) : Sh (k + 1) (.tuple ds) :=
  ⟨by simp only [PyData.canLay0]; exact lay_all fun d hd => (h d hd).1, by simp only [PyData.depth]; have := dep_all (k := k) (ds := ds) fun d hd => (h d hd).2; omega⟩
theorem Sh.lst {k : Nat} {ds : List PyData} (h : ∀ d, d ∈ ds → Sh k d) : Sh (k + 1) (.list ds) :=
  ⟨by simp only [PyData.canLay0]; exact lay_all fun d hd => (h d hd).1, by simp only [PyData.depth]; have := dep_all (k := k) (ds := ds) fun d hd => (h d hd).2; omega⟩
theorem Sh.int (i : Int) {k : Nat} : Sh k (.int i) := ⟨by simp [PyData.canLay0], by simp [PyData.depth]⟩
theorem Sh.ints {k : Nat} (ns : List Int) : ∀ d, d ∈ ns.map PyData.int → Sh k d := fun d h => by
  obtain ⟨i, _, rfl⟩ := List.mem_map.mp h
  exact .int i
theorem eq_data {K : PySem.W.Frag} {H : Hp} {x y : V} {d : PyData} {Q : VK} {k : Nat} (hx : Dp K H x d) (hy : Dp K H y d) (hs : Sh k d) (hk : k ≤ 64) (q : Q (.bl true) H) : rEqD K x y H Q :=
  ⟨d, d, hx, hy, hs.shaped hk, hs.shaped hk, by rw [SeqAt.eqv_refl d hs.1]; exact q⟩
theorem ne_data {K : PySem.W.Frag} {H : Hp} {x y : V} {d : PyData} {Q : VK} {k : Nat} (hx : Dp K H x d) (hy : Dp K H y d) (hs : Sh k d) (hk : k ≤ 64) (q : Q (.bl false) H) : rNeD K x y H Q :=
  ⟨d, d, hx, hy, hs.shaped hk, hs.shaped hk, by rw [SeqAt.eqv_refl d hs.1]; exact q⟩
theorem dp_tup {K : PySem.W.Frag} {H : Hp} {a : Addr} {ns : List Int} (h : SqT K H a (ns.map V.int)) : Dp K H (.ref a) (.tuple (ns.map PyData.int)) := .tup h (dp_ints ns)
theorem ne_ints {K : PySem.W.Frag} {H : Hp} {a b : Addr} {ns : List Int} {Q : VK} (ha : SqT K H a (ns.map V.int)) (hb : SqT K H b (ns.map V.int)) (q : Q (.bl false) H) : rNeD K (.ref a) (.ref b) H Q :=
  ne_data (dp_tup ha) (dp_tup hb) (Sh.tup (k := 0) (Sh.ints ns)) (by decide) q
end MB

set_option maxHeartbeats 4000000
namespace MB
open PySem PySem.Spec PyProof.Rows L2
/-! ### dicts whose keys are tuples of ints, by the data of the keys -/
abbrev KX := List (List Int × Addr × V)
def RX : KX → List (List Int × Addr × Value) → Prop := Paired fun p q => p.1 = q.1 ∧ p.2.1 = q.2.1 ∧ RelV p.2.2 q.2.2
def kvX (L : KX) : List (List Int × V) := L.map fun x => (x.1, x.2.2)
def putX (L : KX) (k : List Int) (b : Addr) (v : V) : KX :=
  if ((kvX L).any fun kv => decide (kv.1 = k)) = true then L.map (fun x => if x.1 = k then (x.1, x.2.1, v) else x) else L ++ [(k, b, v)]
theorem kvX_put (L : KX) (k : List Int) (b : Addr) (v : V) : kvX (putX L k b v) = putK (kvX L) k v := by
  unfold putX putK
  split
  · unfold kvX
    rw [List.map_map, List.map_map]
    refine List.map_congr_left fun x _ => ?_
    by_cases h : x.1 = k <;> simp [h]
  · simp [kvX]
theorem putX_key {L : KX} {k : List Int} {b : Addr} {v : V} {x : List Int × Addr × V} (h : x ∈ putX L k b v) : (∃ y ∈ L, x.1 = y.1 ∧ x.2.1 = y.2.1) ∨ (x.1 = k ∧ x.2.1 = b) := by
  unfold putX at h
  split at h
  · obtain ⟨y, hy, rfl⟩ := List.mem_map.mp h
    refine .inl ⟨y, hy, ?_⟩
    split <;> exact ⟨rfl, rfl⟩
  · rcases List.mem_append.mp h with h | h
    · exact .inl ⟨x, h, rfl, rfl⟩
    · simp only [List.mem_singleton] at h
      subst h
      exact .inr ⟨rfl, rfl⟩
theorem RX.val {L : KX} {xs : List (List Int × Addr × Value)} (r : RX L xs) (k : List Int) : RelO (valV (kvX L) k) ((atKey xs k).map (·.2)) := by
  unfold RX at r
  induction r with
  | nil => exact True.intro
  | @cons p q ps qs h t ih =>
    obtain ⟨h1, _, h2⟩ := h
    show RelO (valV ((p.1, p.2.2) :: kvX ps) k) _
    by_cases e : p.1 = k
    · have e' : q.1 = k := h1.symm.trans e
      have b : atKey (q :: qs) k = some q.2 := by simp [atKey, List.find?_cons, e']
      rw [valV_pos (p := (p.1, p.2.2)) e, b]; exact h2
    · have e' : ¬ q.1 = k := fun z => e (h1.trans z)
      have b : atKey (q :: qs) k = atKey qs k := by simp [atKey, List.find?_cons, e']
      rw [valV_neg (p := (p.1, p.2.2)) e, b]; exact ih
theorem RX.repl {L : KX} {xs : List (List Int × Addr × Value)} (r : RX L xs) (k : List Int) {y : V} {u : Value} (ry : RelV y u) :
    RX (L.map fun x => if x.1 = k then (x.1, x.2.1, y) else x) (xs.map (putAt k u)) := by
  unfold RX at r ⊢
  induction r with
  | nil => exact .nil
  | @cons p q ps qs h t ih =>
    rw [List.map_cons, List.map_cons]
    refine .cons ?_ ih
    obtain ⟨h1, h2, h3⟩ := h
    unfold putAt
    by_cases e : p.1 = k
    · rw [if_pos e, if_pos (h1.symm.trans e)]; exact ⟨h1, h2, ry⟩
    · rw [if_neg e, if_neg (fun z => e (h1.trans z))]; exact ⟨h1, h2, h3⟩
theorem RX.put {L : KX} {xs : List (List Int × Addr × Value)} (r : RX L xs) (k : List Int) {b : Addr} {y : V} {u : Value} (ry : RelV y u) : RX (putX L k b y) (storedH xs k b u) := by
  have e : ((kvX L).any fun kv => decide (kv.1 = k)) = (atKey xs k).isSome := by
    rw [valV_any, (r.val k).isSome_eq, Option.isSome_map]
  unfold putX storedH
  rw [e]
  by_cases q : (atKey xs k).isSome = true
  · rw [if_pos q, if_pos q]; exact r.repl k ry
  · rw [if_neg q, if_neg q]; exact Paired.snoc r ⟨rfl, rfl, ry⟩
theorem RX.len {L : KX} {xs : List (List Int × Addr × Value)} (r : RX L xs) : L.length = xs.length := Paired.length r
theorem kvX_len (L : KX) : (kvX L).length = L.length := by simp [kvX]
def DX0 (P : Program) (w : World) (h : Heap) (d : Addr) (L : KX) : Prop := L.length ≤ sizeLine ∧ (d == sysModules) = false ∧ ∃ xs, RX L xs ∧
  ∃ o es ep, h.get? d = some o ∧ o.ExactDict ∧ o.data = .dict es ep ∧ es.toList = xs.map (entryOfKey (tupleKind (intKind P w))) ∧ (xs.map (·.1)).Nodup
def DXO (P : Program) (w : World) (d : Addr) (L : KX) : HO := .ext fun h => DX0 P w h d L
theorem dx_new {P : Program} {w : World} {H : Hp} {h : Heap} {d : Addr} {L : KX} (R : DX0 P w h d L) : ObjOk P w H h d (DXO P w d L) := by
  have ⟨z, y, xs, r, o, es, ep, ho, q⟩ := R
  refine ⟨R, ⟨o, ho⟩, fun h1 h2 p k => ?_⟩
  have ⟨z', y', xs', r', o', es', ep', ho', q'⟩ := p
  exact ⟨z', y', xs', r', o', es', ep', k o' ho', q'⟩
/-- at d stands a dict with the keys and values kvs -/
def DN (K : PySem.W.Frag) (P : Program) (w : World) (H : Hp) (d : Addr) (kvs : List (List Int × V)) : Prop :=
  ∃ L : KX, H d = some (DXO P w d L) ∧ (∀ x ∈ L, SqT K H x.2.1 (x.1.map V.int)) ∧ kvX L = kvs
theorem DN.same {K : PySem.W.Frag} {P : Program} {w : World} {H H' : Hp} {d : Addr} {kvs : List (List Int × V)} (g : DN K P w H d kvs) (s : Same H H') : DN K P w H' d kvs := by
  obtain ⟨L, h1, h2, h3⟩ := g
  exact ⟨L, s _ _ h1, fun x hx => Same.tup s (h2 x hx), h3⟩
theorem DN.keep {K : PySem.W.Frag} {P : Program} {w : World} {H H' : Hp} {d : Addr} {kvs : List (List Int × V)} (g : DN K P w H d kvs) (s : Keep K H H') (e : ∀ o, H d = some o → H' d = some o) : DN K P w H' d kvs := by
  obtain ⟨L, h1, h2, h3⟩ := g
  exact ⟨L, e _ h1, fun x hx => s _ _ (h2 x hx), h3⟩
/-- what is not at d stays, tuples stay -/
theorem keep_updX {K : PySem.W.Frag} {P : Program} {w : World} {H : Hp} {d : Addr} {L L' : KX} (h : H d = some (DXO P w d L)) : Keep K H (upd H d (DXO P w d L')) := fun a xs hs => by
  rcases hs with (hs | ⟨o, hs⟩) | hs
  · exact .inl (.inl (by rw [upd_ne (fun e => by rw [e, h] at hs; cases hs)]; exact hs))
  · exact .inl (.inr ⟨o, by rw [upd_ne (fun e => by rw [e, h] at hs; cases hs)]; exact hs⟩)
  · exact .inr hs
section
variable {X : Cx} {pins : List (Addr × Obj)} {σ : L2.St} {H : Hp} {s : Shared} {d a b : Addr} {kvs : List (List Int × V)} {k : List Int} {A : Around} {E : Value → Shared → Prop}
theorem DN.at (I : Inv X pins σ H s) (g : DN X.K X.prog X.w H d kvs) : (d == sysModules) = false ∧ ∃ (L : KX) (xs : List (List Int × Addr × Value)), H d = some (DXO X.prog X.w d L) ∧ (∀ x ∈ L, SqT X.K H x.2.1 (x.1.map V.int)) ∧ kvX L = kvs ∧ RX L xs ∧ L.length ≤ sizeLine ∧ s.heap.DictOfH (tupleKind (intKind X.prog X.w)) d xs := by
  obtain ⟨L, h1, h2, h3⟩ := g
  obtain ⟨⟨z, y, xs, r, o, es, ep, ho, hc, hd, he, hn⟩, _⟩ := (show ObjOk X.prog X.w H s.heap d (DXO X.prog X.w d L) from I.hok d _ h1)
  refine ⟨y, L, xs, h1, h2, h3, r, z, o, es, ep, ho, hc, hd, he, ?_, hn⟩
  have all : ∀ {l : KX} {m : List (List Int × Addr × Value)}, RX l m → (∀ x ∈ l, SqT X.K H x.2.1 (x.1.map V.int)) → ∀ x ∈ m, (tupleKind (intKind X.prog X.w)).is s.heap x.1 x.2.1 := by
    intro l m q
    unfold RX at q
    induction q with
    | nil => intro _ x hx; exact nomatch hx
    | @cons p q ps qs hq t ih =>
      intro hl x hx
      rcases List.mem_cons.mp hx with e | hx
      · subst e
        have := I.isT (hl p (List.mem_cons_self ..))
        rw [hq.1, hq.2.1] at this
        exact this
      · exact ih (fun x hx => hl x (List.mem_cons_of_mem _ hx)) x hx
  exact all r h2
theorem DN.typeIs (I : Inv X pins σ H s) (g : DN X.K X.prog X.w H d kvs) : s.TypeIs (.ref d) "dict" := by
  obtain ⟨_, _, _, _, _, _, _, _, dd⟩ := g.at I
  exact dd.typeIs
theorem DN.noDict (I : Inv X pins σ H s) (g : DN X.K X.prog X.w H d kvs) : ∀ b, Value.ref d = .ref b → ∃ ob, s.heap.get? b = some ob ∧ ob.dict = none := fun b q => by
  cases q
  obtain ⟨_, _, _, _, _, _, _, _, ob, _, _, h1, h2, _⟩ := g.at I
  exact ⟨ob, h1, h2.2.1⟩
theorem n_getItem {v : V} {Q : Value → Shared → Prop} (hu : A.units + 1 < cLine) (I : Inv X pins σ H s) (g : DN X.K X.prog X.w H d kvs) (hk : SqT X.K H b (k.map V.int)) (hv : valV kvs k = some v) (h : ∀ w' s', Inv X pins σ H s' → RelV v w' → Q w' s') :
    wpAny (model X.prog X.w) A (getItem (.ref d) (.ref b)) Q E s := by
  obtain ⟨hd, L, xs, _, _, e, r, _, dd⟩ := g.at I
  obtain ⟨w', hw, rw'⟩ := RelO.some_of (v := v) (o := (atKey xs k).map (·.2)) (by rw [← hv, ← e]; exact r.val k)
  obtain ⟨p, hp, hp2⟩ := Option.map_eq_some_iff.mp hw
  refine wpAny_getItem_heap (tupleKind_room_in1 hu) (I.isT hk) dd hp ?_
  rw [hp2]
  exact h w' _ (I.tok _) rw'
theorem n_in {Q : Value → Shared → Prop} (hu : A.units + 1 < cLine) (I : Inv X pins σ H s) (g : DN X.K X.prog X.w H d kvs) (hk : SqT X.K H b (k.map V.int)) (h : ∀ s', Inv X pins σ H s' → Q (.bool (valV kvs k).isSome) s') :
    wpAny (model X.prog X.w) A (compareOp .In (.ref b) (.ref d)) Q E s := by
  obtain ⟨hd, L, xs, _, _, e, r, _, dd⟩ := g.at I
  refine wpAny_in_heap (tupleKind_room_in1 hu) (I.isT hk) hd dd ?_
  have q := (r.val k).isSome_eq
  rw [Option.isSome_map, e] at q
  rw [← q]
  exact h _ (I.tok _)
theorem n_notIn {Q : Value → Shared → Prop} (hu : A.units + 1 < cLine) (I : Inv X pins σ H s) (g : DN X.K X.prog X.w H d kvs) (hk : SqT X.K H b (k.map V.int)) (h : ∀ s', Inv X pins σ H s' → Q (.bool (!(valV kvs k).isSome)) s') :
    wpAny (model X.prog X.w) A (compareOp .NotIn (.ref b) (.ref d)) Q E s := by
  obtain ⟨hd, L, xs, _, _, e, r, _, dd⟩ := g.at I
  refine wpAny_notIn_heap (tupleKind_room_in1 hu) (I.isT hk) hd dd ?_
  have q := (r.val k).isSome_eq
  rw [Option.isSome_map, e] at q
  rw [← q]
  exact h _ (I.tok _)
theorem n_get1 {Q : Value → Shared → Prop} (hu : A.units + 1 < cLine) (I : Inv X pins σ H s) (g : DN X.K X.prog X.w H d kvs) (hk : SqT X.K H b (k.map V.int)) (h : ∀ w' s', Inv X pins σ H s' → RelV ((valV kvs k).getD .non) w' → Q w' s') :
    wpAny (model X.prog X.w) A (call (.builtin "dict.get") [.ref d, .ref b]) Q E s := by
  obtain ⟨hd, L, xs, _, _, e, r, _, dd⟩ := g.at I
  refine call_meetsIn PySem.F.slot_dict_get dd.typeIs PySem.F.entry_dict_get (PySem.F.args_dict_get_2 _ _) (meetsH_dict_get (tupleKind (intKind X.prog X.w)) d b hd) ⟨tupleKind_room_in1 hu, k, xs, I.isT hk, dd, h _ _ (I.tok _) ?_⟩
  rw [← e]
  exact (r.val k).getD rfl
theorem n_get2 {z : V} {u : Value} {Q : Value → Shared → Prop} (hu : A.units + 1 < cLine) (I : Inv X pins σ H s) (g : DN X.K X.prog X.w H d kvs) (hk : SqT X.K H b (k.map V.int)) (rz : RelV z u) (h : ∀ w' s', Inv X pins σ H s' → RelV ((valV kvs k).getD z) w' → Q w' s') :
    wpAny (model X.prog X.w) A (call (.builtin "dict.get") [.ref d, .ref b, u]) Q E s := by
  obtain ⟨hd, L, xs, _, _, e, r, _, dd⟩ := g.at I
  refine call_meetsIn PySem.F.slot_dict_get dd.typeIs PySem.F.entry_dict_get (PySem.F.args_dict_get_3 _ _ _) (meetsH_dict_get_default (tupleKind (intKind X.prog X.w)) d b hd u) ⟨tupleKind_room_in1 hu, k, xs, I.isT hk, dd, h _ _ (I.tok _) ?_⟩
  rw [← e]
  exact (r.val k).getD rz
/-- the heaps behind d[k] = v -/
def DNput (K : PySem.W.Frag) (P : Program) (w : World) (H : Hp) (d : Addr) (kvs : List (List Int × V)) (k : List Int) (v : V) (R : Hp → Prop) : Prop :=
  ∀ H', (∀ c, c ≠ d → H' c = H c) → Keep K H H' → DN K P w H' d (putK kvs k v) → R H'
theorem n_setItem {v : V} {u : Value} {Q : Unit → Shared → Prop} (hu : A.units + 1 < cLine) (I : Inv X pins σ H s) (g : DN X.K X.prog X.w H d kvs) (hk : SqT X.K H b (k.map V.int)) (hl : kvs.length < sizeLine) (rv : RelV v u) (h : DNput X.K X.prog X.w H d kvs k v fun H' => ∀ s', Inv X pins σ H' s' → Q () s') :
    wpAny (model X.prog X.w) A (setItem (.ref d) (.ref b) u) Q E s := by
  obtain ⟨hd, L, xs, hL, hS, e, r, z, dd⟩ := g.at I
  have hz : xs.length ≤ sizeLine := by rw [← r.len]; exact z
  have hl2 : (putX L k b v).length ≤ sizeLine := by
    have := length_putK kvs k v
    rw [← kvX_len, kvX_put, e]
    omega
  have kp := keep_updX (K := X.K) (L' := putX L k b v) hL
  refine wpAny_setItem_heap (hsz := hz) (tupleKind_room_in1 hu) (I.isT hk) dd fun h' dd' hs => ?_
  obtain ⟨q, es, ep, hq, h2, h3, h4, _, h5⟩ := dd'
  refine h _ (fun c hc => upd_ne hc) kp ⟨putX L k b v, upd_same, fun x hx => ?_, by rw [kvX_put, e]⟩ _ (d_write I (by rw [hL]; exact True.intro) hs ⟨q, hq⟩ (dx_new ⟨hl2, hd, _, r.put k rv, q, es, ep, hq, h2, h3, h4, h5⟩))
  rcases putX_key hx with ⟨y, hy, e1, e2⟩ | ⟨e1, e2⟩
  · rw [e1, e2]; exact kp _ _ (hS y hy)
  · rw [e1, e2]; exact kp _ _ hk
end
/-! ### readings -/
def tNGet (K : PySem.W.Frag) (P : Program) (w : World) (td ty : TE) : TE := fun σ H Q => td σ H fun x H1 => ty σ H1 fun y H2 => ∃ a b kvs k v, x = .ref a ∧ y = .ref b ∧ DN K P w H2 a kvs ∧ SqT K H2 b (k.map V.int) ∧ valV kvs k = some v ∧ Q v H2
def tNIn (K : PySem.W.Frag) (P : Program) (w : World) (ty td : TE) : TE := fun σ H Q => ty σ H fun y H1 => td σ H1 fun x H2 => ∃ a b kvs k, x = .ref a ∧ y = .ref b ∧ DN K P w H2 a kvs ∧ SqT K H2 b (k.map V.int) ∧ Q (.bl (valV kvs k).isSome) H2
def tNNotIn (K : PySem.W.Frag) (P : Program) (w : World) (ty td : TE) : TE := fun σ H Q => ty σ H fun y H1 => td σ H1 fun x H2 => ∃ a b kvs k, x = .ref a ∧ y = .ref b ∧ DN K P w H2 a kvs ∧ SqT K H2 b (k.map V.int) ∧ Q (.bl (!(valV kvs k).isSome)) H2
def sNPut (K : PySem.W.Frag) (P : Program) (w : World) (td ty tv : TE) : TS := fun D σ H => tv σ H fun v H1 => td σ H1 fun x H2 => ty σ H2 fun y H3 => ∃ a b kvs k, x = .ref a ∧ y = .ref b ∧ DN K P w H3 a kvs ∧ SqT K H3 b (k.map V.int) ∧ kvs.length < sizeLine ∧ DNput K P w H3 a kvs k v fun H' => D.nx σ H'
def tNGet1 (K : PySem.W.Frag) (P : Program) (w : World) (td ty : TE) : TE := fun σ H Q => td σ H fun x H1 => ∃ a kvs, x = .ref a ∧ DN K P w H1 a kvs ∧ ty σ H1 fun y H2 => ∃ b k, y = .ref b ∧ DN K P w H2 a kvs ∧ SqT K H2 b (k.map V.int) ∧ Q ((valV kvs k).getD .non) H2
def tNGet2 (K : PySem.W.Frag) (P : Program) (w : World) (td ty tx : TE) : TE := fun σ H Q => td σ H fun x H1 => ∃ a kvs, x = .ref a ∧ DN K P w H1 a kvs ∧ ty σ H1 fun y H2 => tx σ H2 fun z H3 => ∃ b k, y = .ref b ∧ DN K P w H3 a kvs ∧ SqT K H3 b (k.map V.int) ∧ Q ((valV kvs k).getD z) H3
section
variable {X : Cx} {K : PySem.W.Frag} {P : Program} {w : World} {o i e f value : Expr} {pos pos' tpos apos cpos : Pos} {td ty tv tx : TE}
theorem pe_nget (hK : X.K = K) (hP : X.prog = P) (hw : X.w = w) (hu : X.A.units + 1 < cLine) (ho : PE X o td) (hi : PE X i ty) (hs : NoSl i) : PE X (.Subscript o i pos) (tNGet K P w td ty) := by
  subst hK hP hw
  refine ⟨fun pins s σ H Q I h => ?_⟩
  refine subD_of PySem.F.slot_dict_getitem.lookup hs (thn (ho.run pins s σ H _ I h) fun u s1 ⟨x, H1, I1, rx, q1⟩ => thn (hi.run pins s1 σ H1 _ I1 q1) fun iv s2 ⟨y, H2, I2, ry, a, b, kvs, k, v, ex, ey, g, hk, hv, q2⟩ => ?_)
  subst ex ey
  obtain rfl : u = Value.ref a := rx
  obtain rfl : iv = Value.ref b := ry
  exact ⟨g.typeIs I2, n_getItem hu I2 g hk hv fun w' s3 I3 rw' => ⟨v, H2, I3, rw', q2⟩⟩
theorem pc_nin (hK : X.K = K) (hP : X.prog = P) (hw : X.w = w) (hu : X.A.units + 1 < cLine) (hi : PE X i ty) (ho : PE X o td) : PC X .In i o (tNIn K P w ty td) := by
  subst hK hP hw
  refine ⟨fun pins s σ H Q I h => ?_⟩
  refine thn (hi.run pins s σ H _ I h) fun iv s1 ⟨y, H1, I1, ry, q1⟩ => thn (ho.run pins s1 σ H1 _ I1 q1) fun u s2 ⟨x, H2, I2, rx, a, b, kvs, k, ex, ey, g, hk, q2⟩ => ?_
  subst ex ey
  obtain rfl : u = Value.ref a := rx
  obtain rfl : iv = Value.ref b := ry
  exact n_in hu I2 g hk fun s3 I3 => ⟨.bl _, H2, I3, rfl, q2⟩
theorem pc_nnotin (hK : X.K = K) (hP : X.prog = P) (hw : X.w = w) (hu : X.A.units + 1 < cLine) (hi : PE X i ty) (ho : PE X o td) : PC X .NotIn i o (tNNotIn K P w ty td) := by
  subst hK hP hw
  refine ⟨fun pins s σ H Q I h => ?_⟩
  refine thn (hi.run pins s σ H _ I h) fun iv s1 ⟨y, H1, I1, ry, q1⟩ => thn (ho.run pins s1 σ H1 _ I1 q1) fun u s2 ⟨x, H2, I2, rx, a, b, kvs, k, ex, ey, g, hk, q2⟩ => ?_
  subst ex ey
  obtain rfl : u = Value.ref a := rx
  obtain rfl : iv = Value.ref b := ry
  exact n_notIn hu I2 g hk fun s3 I3 => ⟨.bl _, H2, I3, rfl, q2⟩
theorem ps_nput (hK : X.K = K) (hP : X.prog = P) (hw : X.w = w) (hu : X.A.units + 1 < cLine) (ho : PE X o td) (hi : PE X i ty) (hv : PE X value tv) (hs : swapsWith value (some (.Subscript o i pos')) pos.line X.env = pure false) :
    PS X (.Assign [.Subscript o i pos'] value pos) (sNPut K P w td ty tv) := by
  subst hK hP hw
  refine ⟨fun pins s σ H D I h => ?_⟩
  refine wpAny_Assign_Subscript (thn (hv.run pins s σ H _ I h) fun r s1 ⟨v, H1, I1, rv, q1⟩ => thn (ho.run pins s1 σ H1 _ I1 q1) fun u s2 ⟨x, H2, I2, rx, q2⟩ => thn (hi.run pins s2 σ H2 _ I2 q2) fun iv s3 ⟨y, H3, I3, ry, a, b, kvs, k, ex, ey, g, hk, hl, q3⟩ => ?_) hs
  subst ex ey
  obtain rfl : u = Value.ref a := rx
  obtain rfl : iv = Value.ref b := ry
  exact n_setItem hu I3 g hk hl rv fun H' h1 h2 h3 s4 I4 => ⟨σ, H', I4, q3 H' h1 h2 h3⟩
theorem pe_nget1 (hK : X.K = K) (hP : X.prog = P) (hw : X.w = w) (hu : X.A.units + 1 < cLine) (ho : PE X o td) (he : PE X e ty) (m : M1 X o "get" apos e cpos) : PE X (.Call (.Attribute o "get" apos) [e] [] cpos) (tNGet1 K P w td ty) := by
  subst hK hP hw
  refine ⟨fun pins s σ H Q I h => ?_⟩
  refine wpAny_Call_method m.base m.few m.line PySem.F.plainAttrs_dict PySem.F.slot_dict_get PySem.F.type_dict_get (thn (ho.run pins s σ H _ I h) fun u s1 ⟨x, H1, I1, rx, a, kvs, ex, d, q1⟩ => ?_)
  subst ex
  obtain rfl : u = Value.ref a := rx
  refine ⟨d.typeIs I1, d.noDict I1, ?_⟩
  rw [m.trees]
  refine Calls.callWith_builtin rfl (Calls.evalArgs_plain (Calls.spliced_cons (thn (he.run pins s1 σ H1 _ I1 q1) fun iv s2 ⟨y, H2, I2, ry, b, k, ey, g, hk, q2⟩ => Calls.spliced_nil ?_)))
  subst ey
  obtain rfl : iv = Value.ref b := ry
  exact n_get1 hu I2 g hk fun w' s3 I3 rw' => ⟨_, H2, I3, rw', q2⟩
theorem pe_nget2 (hK : X.K = K) (hP : X.prog = P) (hw : X.w = w) (hu : X.A.units + 1 < cLine) (ho : PE X o td) (he : PE X e ty) (hf : PE X f tx) (m : M2 X o "get" apos e f cpos) : PE X (.Call (.Attribute o "get" apos) [e, f] [] cpos) (tNGet2 K P w td ty tx) := by
  subst hK hP hw
  refine ⟨fun pins s σ H Q I h => ?_⟩
  refine wpAny_Call_method m.base m.few m.line PySem.F.plainAttrs_dict PySem.F.slot_dict_get PySem.F.type_dict_get (thn (ho.run pins s σ H _ I h) fun u s1 ⟨x, H1, I1, rx, a, kvs, ex, d, q1⟩ => ?_)
  subst ex
  obtain rfl : u = Value.ref a := rx
  refine ⟨d.typeIs I1, d.noDict I1, ?_⟩
  rw [m.trees]
  refine Calls.callWith_builtin rfl (Calls.evalArgs_plain (Calls.spliced_cons (thn (he.run pins s1 σ H1 _ I1 q1) fun iv s2 ⟨y, H2, I2, ry, q2⟩ =>
    Calls.spliced_cons (thn (hf.run pins s2 σ H2 _ I2 q2) fun fv s3 ⟨z, H3, I3, rz, b, k, ey, g, hk, q3⟩ => Calls.spliced_nil ?_))))
  subst ey
  obtain rfl : iv = Value.ref b := ry
  exact n_get2 hu I3 g hk rz fun w' s4 I4 rw' => ⟨_, H3, I4, rw', q3⟩
end
theorem u2_of {A : Around} {k : Nat} (hr : Room k A) : A.units + 2 < cLine := Nat.lt_of_le_of_lt (Nat.add_le_add_left (by decide : 2 ≤ 64) _) hr.units
/-! ### {} and dict(list of pairs) -/
theorem dx_empty {P : Program} {w : World} (h : Heap) (hb : sysModules < h.objs.size) : DX0 P w (h.push { cls := .type "dict", data := .dict #[] }) h.objs.size [] :=
  ⟨Nat.zero_le _, beq_eq_false_iff_ne.mpr (Ne.symm (Nat.ne_of_lt hb)), [], .nil, _, #[], 0, Heap.get?_push_size _ rfl, ⟨rfl, rfl, rfl⟩, rfl, rfl, List.nodup_nil⟩
def tNNew (K : PySem.W.Frag) (P : Program) (w : World) : TE := fun _ H Q => ∀ p H', H p = none → Same H H' → DN K P w H' p [] → Q (.ref p) H'
theorem pe_nnew {X : Cx} {K : PySem.W.Frag} {P : Program} {w : World} {pos : Pos} (hK : X.K = K) (hP : X.prog = P) (hw : X.w = w) : PE X (.Dict [] [] pos) (tNNew K P w) := by
  subst hK hP hw
  refine ⟨fun pins s σ H Q I h => ?_⟩
  have hn : H s.heap.objs.size = none := I.hok.fresh (Nat.le_refl _)
  exact wpAny_Dict_empty ⟨.ref s.heap.objs.size, _, I.laid (a := s.heap.objs.size) (o := DXO X.prog X.w s.heap.objs.size []) (t' := s.toks) (fun _ _ q => Heap.get?_push_of_some _ q) (Nat.le_refl _) (dx_new (dx_empty s.heap I.big)), rfl, h _ _ hn (same_upd hn) ⟨[], upd_same, (fun x hx => nomatch hx), rfl⟩⟩
def mergeT (kvs more : List (List Int × V)) : List (List Int × V) := more.foldl (fun acc kv => putK acc kv.1 kv.2) kvs
def allX (L M : KX) : KX := M.foldl (fun acc p => putX acc p.1 p.2.1 p.2.2) L
theorem RX.all {M : KX} {ms : List (List Int × Addr × Value)} (r : RX M ms) : ∀ {L : KX} {xs : List (List Int × Addr × Value)}, RX L xs → RX (allX L M) (storedAllH xs ms) := by
  unfold RX at r
  induction r with
  | nil => intro L xs q; exact q
  | @cons p q ps qs h t ih =>
    intro L xs hq
    show RX (allX (putX L p.1 p.2.1 p.2.2) ps) (storedAllH (storedH xs q.1 q.2.1 q.2.2) qs)
    rw [← h.1, ← h.2.1]
    exact ih (hq.put _ h.2.2)
theorem kvX_all : ∀ (M L : KX), kvX (allX L M) = mergeT (kvX L) (kvX M)
  | [], _ => rfl
  | p :: M, L => by
    show kvX (allX (putX L p.1 p.2.1 p.2.2) M) = mergeT (putK (kvX L) p.1 p.2.2) (kvX M)
    rw [kvX_all M, kvX_put]
theorem allX_key {Pr : List Int → Addr → Prop} : ∀ {M L : KX}, (∀ x ∈ L, Pr x.1 x.2.1) → (∀ x ∈ M, Pr x.1 x.2.1) → ∀ x ∈ allX L M, Pr x.1 x.2.1
  | [], _, h, _ => h
  | p :: M, L, h, hp => allX_key (M := M) (L := putX L p.1 p.2.1 p.2.2) (fun x hx => by
      rcases putX_key hx with ⟨y, hy, e1, e2⟩ | ⟨e1, e2⟩
      · rw [e1, e2]; exact h y hy
      · rw [e1, e2]; exact hp p List.mem_cons_self) fun x hx => hp x (List.mem_cons_of_mem _ hx)
theorem putX_len (L : KX) (k : List Int) (b : Addr) (v : V) : (putX L k b v).length ≤ L.length + 1 := by
  unfold putX
  split <;> simp
theorem allX_len : ∀ (M L : KX), (allX L M).length ≤ L.length + M.length
  | [], _ => Nat.le_refl _
  | p :: M, L => by
    have h1 := allX_len M (putX L p.1 p.2.1 p.2.2)
    have h2 := putX_len L p.1 p.2.1 p.2.2
    show (allX (putX L p.1 p.2.1 p.2.2) M).length ≤ _
    simp only [List.length_cons]
    omega
/-- a list of pairs (tuple of ints, value) -/
def rDictT (K : PySem.W.Frag) (P : Program) (w : World) : List V → Hp → VK → Prop := fun xs H Q => ∃ (a : Addr) (ts : List Addr) (M : KX), xs = [V.ref a] ∧ SqL K H a (ts.map V.ref) ∧ Paired (fun t m => SqT K H t [V.ref m.2.1, m.2.2] ∧ SqT K H m.2.1 (m.1.map V.int)) ts M ∧
  ∀ p H', H p = none → Same H H' → DN K P w H' p (mergeT [] (kvX M)) → Q (.ref p) H'
theorem pairsT_of {X : Cx} {pins : List (Addr × Obj)} {σ : L2.St} {H : Hp} {s : Shared} (I : Inv X pins σ H s) : ∀ {ts : List Addr} {M : KX}, Paired (fun t m => SqT X.K H t [V.ref m.2.1, m.2.2] ∧ SqT X.K H m.2.1 (m.1.map V.int)) ts M →
    ∃ ms : List (List Int × Addr × Value), RX M ms ∧ ms.length = ts.length ∧ ∀ (j : Nat) (q : List Int × Addr × Value), ms[j]? = some q → ∃ t, ts[j]? = some t ∧ IsTup s.heap t #[Value.ref q.2.1, q.2.2] ∧ IsT X.prog X.w s.heap q.1 q.2.1
  | _, _, .nil => ⟨[], .nil, rfl, fun j q e => by simp at e⟩
  | _, _, .cons (a := p) (b := m) h t => by
    obtain ⟨ms, r, hl, hp⟩ := pairsT_of I t
    obtain ⟨its, rv, ht, _⟩ := I.tuple h.1
    obtain ⟨u, y, ei, ru, ry⟩ := vals2 rv
    subst ei
    cases ru
    refine ⟨(m.1, m.2.1, y) :: ms, .cons ⟨rfl, rfl, ry⟩ r, by rw [List.length_cons, List.length_cons, hl], fun j q e => ?_⟩
    cases j with
    | zero =>
      have e' : (m.1, m.2.1, y) = q := Option.some.inj e
      subst e'
      exact ⟨p, rfl, ht, I.isT h.2⟩
    | succ j =>
      obtain ⟨b, e1, e2, e3⟩ := hp j q (by simpa using e)
      exact ⟨b, by simpa using e1, e2, e3⟩
theorem call_dictT {X : Cx} {K : PySem.W.Frag} {P : Program} {w : World} (hK : X.K = K) (hP : X.prog = P) (hw : X.w = w) (hcalm : X.calm = true) (hu : X.A.units + 2 < cLine) : CallR X (.type "dict") (rDictT K P w) := by
  subst hK hP hw
  intro pins s σ H xs us Q I r q
  obtain ⟨a, ts, M, ex, hq, hp, q⟩ := q
  subst ex
  obtain ⟨u, eu, rx⟩ := vals1 r
  subst eu
  cases rx
  obtain ⟨its, rv, pl, hz⟩ := I.list hq
  have ei := refs_at rv
  subst ei
  rw [List.length_map] at hz
  obtain ⟨ms, rel, hl, hpr⟩ := pairsT_of I hp
  obtain ⟨o, n, ho, hc, hd, hdat⟩ := pl
  have hmsM := rel.len
  have isAll : ∀ x ∈ ms, (tupleKind (intKind X.prog X.w)).is s.heap x.1 x.2.1 := fun x hx => by
    obtain ⟨j, hj⟩ := List.mem_iff_getElem?.mp hx
    obtain ⟨t, _, _, h3⟩ := hpr j x hj
    exact h3
  have hn : H s.heap.objs.size = none := I.hok.fresh (Nat.le_refl _)
  refine call_dict_pairsH (knd := tupleKind (intKind X.prog X.w)) (ps := ms) (PairArg.list a (ts.map Value.ref).toArray (fun j => ts.getD j 0) (ms.map fun m => (Value.ref m.2.1, m.2.2))) (I.ok.hd hcalm) ?_ ⟨⟨o, n, ho, hc, hd, hdat⟩, ?_, ?_⟩ ⟨?_, ?_⟩ (fun h' hk x hx => ?_) ?_ fun h' tk hd' hk => ?_
  · show X.A.in1.units + 1 < cLine
    exact hu
  · simp [hl]
  · intro j k v hj
    rw [List.getElem?_map, Option.map_eq_some_iff] at hj
    obtain ⟨m, hm, em⟩ := hj
    cases em
    obtain ⟨t, e1, e2, e3⟩ := hpr j m hm
    have et : ts.getD j 0 = t := by rw [List.getD_eq_getElem?_getD, e1]; rfl
    dsimp only
    rw [et]
    refine ⟨by simp [e1], ?_⟩
    exact .inl e2
  · simp
  · intro i key v hr
    rw [PairRel, List.getElem?_map, Option.map_eq_some_iff] at hr
    obtain ⟨m, hm, em⟩ := hr
    cases em
    exact ⟨m.1, m.2.1, hm, rfl⟩
  · have := isAll x hx
    obtain ⟨o', items, n', ho', hc', hd', hi'⟩ := (show IsTupleKey (intKind X.prog X.w) s.heap x.1 x.2.1 from this)
    exact ⟨o', items, n', hk _ _ (Nat.ne_of_lt (Heap.lt_size ho')) (fun z => nomatch z) ho', hc', hd', hi'⟩
  · rw [List.length_map, hl]; exact hz
  · have hm : (s.heap.objs.size == sysModules) = false := beq_eq_false_iff_ne.mpr (Nat.ne_of_gt I.big)
    have hlen : (allX [] M).length ≤ sizeLine := by
      refine Nat.le_trans (allX_len M []) ?_
      rw [List.length_nil, Nat.zero_add, hmsM, hl]
      exact hz
    obtain ⟨o', es, ep, h1, h2, h3, h4, _, h5⟩ := hd'
    have I2 := I.laid (t' := tk) (fun b u e => hk b u (fun z => nomatch z) e) (Nat.le_refl _) (dx_new (H := upd H s.heap.objs.size (DXO X.prog X.w s.heap.objs.size (allX [] M))) (P := X.prog) (w := X.w) (h := h') (d := s.heap.objs.size) (L := allX [] M) ⟨hlen, hm, _, RX.all rel .nil, o', es, ep, h1, h2, h3, h4, h5⟩)
    refine ⟨.ref s.heap.objs.size, _, I2, rfl, q _ _ hn (same_upd hn) ⟨allX [] M, upd_same, ?_, kvX_all M []⟩⟩
    refine allX_key (Pr := fun k b => SqT X.K (upd H s.heap.objs.size (DXO X.prog X.w s.heap.objs.size (allX [] M))) b (k.map V.int)) (fun x hx => nomatch hx) fun x hx => ?_
    have fnd : ∀ {ts : List Addr} {M : KX}, Paired (fun t m => SqT X.K H t [V.ref m.2.1, m.2.2] ∧ SqT X.K H m.2.1 (m.1.map V.int)) ts M → ∀ x ∈ M, SqT X.K H x.2.1 (x.1.map V.int) := by
      intro ts M hp
      induction hp with
      | nil => intro x hx; exact nomatch hx
      | @cons p q ps qs h t ih =>
        intro x hx
        rcases List.mem_cons.mp hx with e | hx
        · subst e; exact h.2
        · exact ih x hx
    exact Same.tup (same_upd hn) (fnd hp x hx)
end MB

set_option maxHeartbeats 4000000
namespace MB
open PySem PySem.Spec PyProof.Rows L2
/-! ### a list from a place back to its start: xs[i::-1] -/
theorem bounds_from {n i : Nat} (h : i < n) : sliceBounds (some (i : Int)) none (some (-1)) n = ((i : Int), -1, -1) := by
  unfold sliceBounds
  have h1 : ¬ ((-1 : Int) > 0) := by decide
  have h2 : ¬ ((i : Int) < 0) := by omega
  simp only [Option.getD_some, h1, if_false, h2]
  congr 1
  omega
theorem pick_from (items : Array Value) {i : Nat} (h : i < items.size) : slicePick items (some (i : Int)) none (some (-1)) = (items.toList.take (i + 1)).reverse.toArray := by
  unfold slicePick
  rw [bounds_from h]
  show ((sliceRange (i : Int) (-1) (-1)).filterMap (items[·]?)).toArray = _
  have e1 : (i : Int) = ((i + 1 : Nat) : Int) - 1 := by omega
  rw [e1, PySem.W.krv_sliceRange, PySem.W.krv_range, List.filterMap_reverse]
  congr 2
  have h2 := pick_run items 0 (i + 1)
  have e : (List.range (i + 1)).map (0 + ·) = List.range (i + 1) := by
    rw [show ((0 + ·) : Nat → Nat) = id from funext fun k => Nat.zero_add k, List.map_id]
  rw [e, List.drop_zero] at h2
  exact h2
theorem vals_take : ∀ {xs : List V} {us : List Value} (n : Nat), Vals xs us → Vals (xs.take n) (us.take n)
  | _, _, 0, _ => .nil
  | _, _, _ + 1, .nil => .nil
  | _, _, n + 1, .cons a b => .cons a (vals_take n b)
def tRevF (K : PySem.W.Frag) (te ti : TE) : TE := fun σ H Q => te σ H fun x H1 => tPart ti σ H1 fun o H2 => ∃ (a : Addr) (xs : List V) (i : Nat), x = .ref a ∧ o = some (i : Int) ∧ SqL K H2 a xs ∧ i < xs.length ∧ ∀ p, H2 p = none → Q (.ref p) (upd H2 p (.lst (xs.take (i + 1)).reverse))
theorem pe_revF {X : Cx} {K : PySem.W.Frag} (hK : X.K = K) {e ei : Expr} {te ti : TE} {k : Nat} {p1 p2 p3 pos : PySem.Pos} (he : PE X e te) (hi : PE X ei ti) : PE X (.Subscript e (.Slice (some ei) none (some (.UnaryOp .USub (.Constant (.int 1) k p1) p2)) p3) pos) (tRevF K te ti) := by
  subst hK
  refine ⟨fun pins s σ H Q I h => ?_⟩
  refine Subscript_ (thn (he.run pins s σ H _ I h) fun v s1 ⟨x, H1, I1, r1, q1⟩ => ?_)
  have hst : PO X (some (.UnaryOp .USub (.Constant (.int 1) k p1) p2)) (tPart (tUn (rU fun i => .int (-i)) (tC (.int 1)))) := po_some (pe_un un_neg pe_int)
  have hlo : PO X (some ei) (tPart ti) := po_some hi
  refine wpAny_Slice (thn (hlo.run pins s1 σ H1 _ I1 q1) fun vl s2 ⟨lo, H2, I2, pl, a, xs, i, ex, elo, hx, hi', q⟩ => ?_)
  cases elo
  cases ex
  cases r1
  refine thn (po_none.run pins s2 σ H2 (fun o H3 => o = none ∧ H3 = H2) I2 ⟨rfl, rfl⟩) fun vu s3 ⟨hi2, H3, I3, pu, ehi, eH⟩ => ?_
  cases ehi; cases eH
  refine thn (hst.run pins s3 σ H2 (fun o H4 => o = some (-1) ∧ H4 = H2) I3 ⟨1, rfl, -1, rfl, rfl, rfl⟩) fun vs s4 ⟨st, H4, I4, ps, est, eH⟩ => ?_
  cases est; cases eH
  have I5 : Inv X pins σ H2 { s4 with heap := s4.heap.push { cls := .type "slice", data := .fields #[vl, vu, vs] } } := I4.kept (t' := s4.toks) fun b ob e => Heap.get?_push_of_some _ e
  obtain ⟨its, r, ht, hz⟩ := I5.list hx
  have hlen := r.length
  show wpAny (model X.prog X.w) X.A (subscriptTail e (.Slice (some ei) none (some (.UnaryOp .USub (.Constant (.int 1) k p1) p2)) p3) (.ref a) (.ref s4.heap.objs.size)) (EP X pins σ Q) X.xe { s4 with heap := s4.heap.push { cls := .type "slice", data := .fields #[vl, vu, vs] } }
  refine tail_any (ops := [.ref a, .ref s4.heap.objs.size]) ht.isList.typeIs (PySem.slot_list_getitem.lookup) ?_ (by with_unfolding_all rfl)
  refine wpAny_getItem_list_slice ht.isList (Heap.IsSliceOf.new _ vl vu vs) pl pu ps (by decide) ?_ (by rw [List.size_toArray]; omega)
  rw [pick_from its.toArray (by rw [List.size_toArray]; omega)]
  refine ⟨.ref _, _, I5.laid (t' := s4.toks) (o := .lst (xs.take (i + 1)).reverse) (fun b ob q => Heap.get?_push_of_some _ q) (Nat.le_refl _) ?_, rfl, q _ (I5.hok.fresh (Nat.le_refl _))⟩
  exact ⟨by rw [List.length_reverse, List.length_take]; omega, _, 0, (vals_take (i + 1) r).reverse, Heap.get?_push_size _ rfl⟩
end MB

set_option maxHeartbeats 4000000
namespace MB
open PySem PySem.Spec PyProof.Rows L2

/-! ### a def called where no repr is under way -/
structure FnG (P : Program) (w : World) (K : PySem.W.Frag) (mg : Str → Option Value) (base : Heap) (CX : CXT) (k : Nat) (f : Addr) (fd : FuncData) (ps : List Str) (sp : Sp) : Prop where
  len : ∀ vs H Q E, sp vs H Q E → vs.length = ps.length
  run : ∀ (A : Around), A.guards = some [] → Room k A → ∀ (outer : List Env) (s : Shared) (H : Hp) (args : Args) (us : List Value) (vs : List V) (Q : VK) (E : XK),
    Env0 P w K mg base A outer s H → BindsTo s fd args (ps.zip us) → Vals vs us → sp vs H Q E → codeAny (model P w) A (.call (.ref f) args) (CR CX outer P w H s Q E) s
section
variable {P : Program} {w : World} {K : PySem.W.Frag} {mg : Str → Option Value} {base : Heap} {CX : CXT} {k : Nat} {f : Addr} {fd : FuncData} {ps : List Str} {sp : Sp}
theorem FnG.of (F : FnOk P w K mg base CX k f fd ps sp) : FnG P w K mg base CX k f fd ps sp :=
  ⟨F.len, fun A _ hr outer s H args us vs Q E => F.run A outer s H args us vs Q E hr⟩
theorem deeper_guards {A : Around} {env : Env} (h : A.guards = some []) : (A.deeper env).guards = some [] := h
theorem fnG_of {name qual : Str} {params : Arguments} {body : List Stmt} {scope : Scope} {dV kV doc pm cdv ct oc : Value} {an od : Option Addr} {osl : Array (Option Value)} {N : List Str}
    (lk : K.lookup f = some ⟨oc, od, .func (PySem.W.fnOf name qual params body scope dV kV doc pm an cdv ct), osl⟩) (hcd : PySem.W.codeIn K cdv qual = true) (S : FnScope N ps scope)
    (len : ∀ vs H Q E, sp vs H Q E → vs.length = ps.length)
    (hbody : ∀ (A : Around), A.guards = some [] → ∀ (outer : List Env) (s : Shared) (H : Hp) (vs : List V) (Q : VK) (E : XK), Room k (A.deeper (envOfC qual scope s.heap.objs.size f cdv)) → sp vs H Q E →
      ∃ t, PSs (cxOf CX P w K mg base N qual scope f cdv A outer s H E) body t ∧ t { nx := fun _ H' => Q .non H', rt := Q } (start N vs) H) :
    FnG P w K mg base CX (k + 1) f (PySem.W.fnOf name qual params body scope dV kV doc pm an cdv ct) ps sp := by
  refine ⟨len, fun A hgd hr outer s H args us vs Q E e0 hb r hsp => ?_⟩
  have kept : ∀ b o, base.get? b = some o → s.heap.get? b = some o := fun b o e => (e0.bs b o e).1
  have KX : K.In s.heap := e0.mod.kin.keeps kept
  obtain ⟨t, ht, hq⟩ := hbody A hgd outer s H vs Q E (hr.deeper _) hsp
  have par : ∀ y ∈ ps.zip us, scope.names.lookup y.1 = some .local ∨ (scope.names.lookup y.1 = some .cell ∧ ((cellsFrom (s.heap.objs.size + 1) scope.names []).lookup y.1).isSome = true) := by
    rintro ⟨n, v⟩ hy
    exact (S.par n (List.of_mem_zip hy).1).imp id fun z => ⟨z, PySem.W.cellsFrom_some _ _ _ (.inl z)⟩
  refine codeAny_call_function hr.depth (KX _ _ lk) rfl S.co S.gen rfl (PySem.W.codeRec_of KX hcd) (hb _ _ _ _ (wpAny_newFunctionEnv_cells S.kind par fun env he s1 x => ?_))
  subst he
  refine ⟨(e0.mod.nolimit.keeps kept).keeps x.toInCall.keep, codeAny_func (wpAny_mono (ht.run [] s1 (start N vs) H _ (inv_start S hr.hd e0 (len _ _ _ _ hsp) r x) hq) (fun fl s' hs => ?_) fun e s' hs => hs)⟩
  rcases fl with _ | _ | _ | u
  · obtain ⟨σ', H', J, q⟩ := hs
    exact ⟨V.non, H', J.os, J.bare, J.base, J.hok, rfl, q⟩
  · exact (let ⟨_, _, _, q⟩ := hs; False.elim q)
  · exact (let ⟨_, _, _, q⟩ := hs; False.elim q)
  · obtain ⟨v, σ', H', J, rv, q⟩ := hs
    exact ⟨v, H', J.os, J.bare, J.base, J.hok, rv, q⟩
theorem Fun.okG {x qual : Str} {st : Stmt} {N : List Str} (F : L2.Fun K x qual st f fd) (S : FnScope N ps (defScope st)) (len : ∀ vs H Q E, sp vs H Q E → vs.length = ps.length)
    (hbody : ∀ (cdv : Value) (A : Around), A.guards = some [] → ∀ (outer : List Env) (s : Shared) (H : Hp) (vs : List V) (Q : VK) (E : XK), Room k (A.deeper (envOfC qual (defScope st) s.heap.objs.size f cdv)) → sp vs H Q E →
      ∃ t, PSs (cxOf CX0 P w K mg base N qual (defScope st) f cdv A outer s H E).nox (defBody st) t ∧ t { nx := fun _ H' => Q .non H', rt := Q } (start N vs) H) : FnG P w K mg base CX0 (k + 1) f fd ps sp := by
  obtain ⟨oc, od, kV, doc, pm, an, cdv, ct, osl, rfl, lk, hcd⟩ := F.ex
  exact fnG_of lk hcd S len fun A hgd outer s H vs Q E hr hsp => let ⟨t, h, q⟩ := hbody cdv A hgd outer s H vs Q E hr hsp; ⟨t, h.nox, q⟩
end
section
variable {X : Cx} {CX : CXT} {k : Nat} {f : Addr} {fd : FuncData} {ps : List Str} {sp : Sp} {ds : List Value} {dvs : List V} {E : XK} {x : Str} {p pos : Pos} {e : Expr} {es : List Expr} {t : TA}
theorem pe_callG (F : FnG X.prog X.w X.K X.mg X.base CX k f fd ps sp) (hgd : X.A.guards = some []) (hr : Room k X.A) (hg : Gl X x) (hm : X.mg x = some (.ref f)) (hk : PySem.W.keepIn X.K (.ref f) = true) (hb : Binds X.K fd ps ds) (hd : Vals dvs ds) (hx : Passes CX X E)
    (ha : PA X (e :: es) t) (hdb : (x == ("__debug__" : Str)) = false := by decide) (he : starEach (e :: es) X.env = (false, eval e X.env) :: starEach es X.env := by rfl) (hpl : (backTo pos (starEach es X.env)).any (·.1) = false := by rfl) :
    PE X (.Call (.Name x p) (e :: es) [] pos) (tCall sp dvs E t) := by
  refine ⟨fun pins s σ H Q I h => wpAny_Call_Name_kw (ld_glob I hg hm (PySem.W.callWith_K (h₀ := X.base) I.ok.mod.kin hk (thn (ha.run pos pins s σ H _ I h) fun us s1 ⟨vs, H1, I1, r, q⟩ => ⟨I1.kIn, ?_⟩) he hpl) hdb)⟩
  have r2 : Vals (vs ++ dvs) (us ++ ds) := r.append hd
  have hl : (us ++ ds).length = ps.length := r2.length.symm.trans (F.len _ _ _ _ q)
  refine wpAny_call (codeAny_mono (F.run X.A hgd hr X.stack s1 H1 ⟨us, []⟩ (us ++ ds) (vs ++ dvs) Q E I1.env0 (hb s1 us I1.kIn hl) r2 q) fun res s' hq => ?_)
  rcases res with e | fl
  · exact hx pins σ H1 s1 e s' I1 hq
  · rcases fl with _ | _ | _ | u
    · exact False.elim hq
    · exact False.elim hq
    · exact False.elim hq
    · exact I1.after hq
end

/-! ### repr of plain data -/
def rReprD (K : PySem.W.Frag) : List V → Hp → VK → Prop := fun xs H Q => ∃ (x : V) (d : PyData), xs = [x] ∧ Dp K H x d ∧ d.canLay0 = true ∧ d.showable = true ∧ d.depth ≤ 60 ∧ d.shown.length ≤ sizeLine ∧ Q (.str d.shown) H
theorem call_reprD {X : Cx} (hgd : X.A.guards = some []) (hu : X.A.units + 64 < cLine) : CallR X (.builtin "repr") (rReprD X.K) := by
  intro pins s σ H xs us Q I r h
  obtain ⟨x, d, rfl, hd, hc, hs, hdep, hz, q⟩ := h
  obtain ⟨u, rfl, rx⟩ := vals1 r
  obtain ⟨as, rd⟩ := Dp.reads I d x u hd rx
  have nd := PyData.hasDict_of_canLay d hc
  have fin : ∀ (h' : Heap) (v tk : Tok), (∀ b o, s.heap.get? b = some o → h'.get? b = some o) → EP X pins σ Q (.str d.shown v) { s with heap := h', toks := tk } := fun h' v tk hk => ⟨.str d.shown, H, I.kept hk, ⟨_, rfl⟩, q⟩
  cases rd with
  | none => exact PySem.P.repr_of_none (fin _ _ _ fun _ _ e => e)
  | bool b =>
    refine PySem.P.repr_of_bool ?_
    cases b <;> exact fin s.heap s.toks (s.toks + 1) fun _ _ e => e
  | int i t => exact PySem.P.repr_of_int (by simpa [PyData.showable] using hs) (fin s.heap s.toks (s.toks + 1) fun _ _ e => e)
  | str y t => exact PySem.P.repr_of_str (fin s.heap s.toks (s.toks + 1) fun _ _ e => e) hz
  | list h1 h2 h3 h4 => exact repr_of_reads' (.list h1 h2 h3 h4) hs (PyData.noDict_hsm nd) hgd (by omega) (fun _ _ e => e) fin hz
  | tuple h1 h2 h3 h4 => exact repr_of_reads' (.tuple h1 h2 h3 h4) hs (PyData.noDict_hsm nd) hgd (by omega) (fun _ _ e => e) fin hz
  | dict h1 h2 h3 h4 h5 => simp [PyData.canLay0] at hc

/-! ### the end: a law whose promise asks that no repr is under way -/
theorem law_callG {P : Program} {w : World} {K : PySem.W.Frag} {mg mb : Str → Option Value} {k : Nat} {fa a : Addr} {fd : FuncData} {x : Str} {sp : Sp} {s₁ : Shared} {vs : List Value} {ns : List Int}
    (KX : K.In s₁.heap) (hns : s₁.heap.Ns mainGlobals mg) (hb : s₁.heap.Ns builtinsNs mb) (hbb : ∀ x : Str, x ≠ "__name__" → mb x = bootBuiltins x) (hlim : s₁.heap.NoLimit) (hg : s₁.gens = #[])
    (ha : s₁.heap.get? a = some { cls := .type "list", data := .seq vs.toArray }) (hi : IntsAre vs ns) (hl : ns.length ≤ sizeLine) (hr : Room k callerA)
    (F : ∀ base : Heap, K.In base → base.Ns mainGlobals mg → FnG P w K mg base CX0 k fa fd [x] sp) (hbind : ∀ (s : Shared) (u : Value), BindsTo s fd ⟨[u], []⟩ [(x, u)])
    (hsp : ∀ H : Hp, SqL K H a (ns.map V.int) → sp [.ref a] H (fun v _ => v = .bl true) fun _ _ _ => False) :
    codeAny (model P w) callerA (.call (.ref fa) ⟨[.ref a], []⟩) (fun r s' => r = .ok (.ret (.bool true)) ∧ OldK s₁.heap s'.heap ∧ s'.os = s₁.os ∧ AllBare s'.gens) s₁ := by
  let oS : Obj := { cls := .type "list", data := .seq vs.toArray }
  -- the script is tracked as it stands, unless it is one of the module's own objects
  let H : Hp := fun b => if b = a ∧ K.lookup a = none then some (.frz oS (.lst (ns.map V.int))) else none
  have rv := vals_ints hi
  have Hsome : ∀ {b : Addr} {o : HO}, H b = some o → b = a ∧ K.lookup a = none ∧ o = .frz oS (.lst (ns.map V.int)) := fun {b o} e => by
    by_cases c : b = a ∧ K.lookup a = none
    · have e' := (if_pos c).symm.trans e
      exact ⟨c.1, c.2, (Option.some.inj e').symm⟩
    · have e' := (if_neg c).symm.trans e
      cases e'
  have free : ∀ {b : Addr}, (∀ z : b = a, K.lookup a ≠ none) → H b = none := fun {b} n => if_neg fun c => n c.1 c.2
  have hS : SqL K H a (ns.map V.int) := by
    cases hk : K.lookup a with
    | none => exact .inl (.inr ⟨oS, if_pos ⟨rfl, hk⟩⟩)
    | some o =>
      have e := (KX a o hk).symm.trans ha
      cases e
      exact .inr ⟨_, vs.toArray, _, hk, rfl, rfl, rfl, by rw [List.size_toArray, hi.length]; exact hl, by simpa using rv⟩
  have hok : HOk P w H s₁.heap := fun b o e => by
    obtain ⟨rfl, _, rfl⟩ := Hsome e
    exact ⟨ha, by rw [List.length_map]; exact hl, vs, _, rv, ha⟩
  have noDict : ∀ {b : Addr} {o : Obj} {es : Array DictEntry} {ep : Nat}, s₁.heap.get? b = some o → o.data = .dict es ep → H b = none := fun {b o es ep} e d => free fun z => by
    subst z
    rw [ha] at e
    cases e
    cases d
  have ns_hid : ∀ {b : Addr} {m : Str → Option Value}, s₁.heap.Ns b m → (hidT s₁.heap H).Ns b m := fun {b m} ⟨o, es, ep, e, d, r⟩ => ⟨o, es, ep, hidT_get e (noDict e d), d, r⟩
  have hKb : K.In (hidT s₁.heap H) := fun b o e => hidT_get (KX b o e) (free fun z => by subst z; rw [e]; exact fun y => nomatch y)
  have hM : Mod K mg (hidT s₁.heap H) := ⟨hKb, ns_hid hns, ⟨mb, ns_hid hb, hbb⟩, let ⟨mc, h1, h2⟩ := hlim; ⟨mc, ns_hid h1, h2⟩⟩
  have e0 : Env0 P w K mg (hidT s₁.heap H) callerA [] s₁ H := ⟨rfl, hM, fun b o e => of_hidT e, Nat.le_of_eq (hidT_size _ _), trivial, (fun b hb => absurd (show b ∈ ([] : List Addr) from hb) (by simp)), hok, .of_eq hg⟩
  refine codeAny_mono ((F _ hKb (ns_hid hns)).run callerA rfl hr [] s₁ H ⟨[.ref a], []⟩ [.ref a] [.ref a] _ _ e0 (hbind s₁ (.ref a)) (.cons rfl .nil) (hsp H hS)) fun r s' h => ?_
  rcases r with e | fl
  · exact False.elim h
  rcases fl with _ | _ | _ | u
  · exact False.elim h
  · exact False.elim h
  · exact False.elim h
  obtain ⟨v, H', os, bare, un, hok', r', q⟩ := h
  have q' : v = .bl true := q
  subst q'
  obtain rfl : u = Value.bool true := r'
  refine ⟨rfl, OldK.of_keep fun b o e => ?_, os, bare⟩
  cases hb' : H b with
  | none => exact un.keep b o e hb' (fun z => absurd (show b ∈ ([] : List Addr) from z) (by simp)) (by simp)
  | some u =>
    obtain ⟨rfl, hk, rfl⟩ := Hsome hb'
    have e2 := (hok' _ _ (un.frzs _ oS _ hb')).1
    rw [ha] at e
    cases e
    exact e2
theorem walk_ofG {l : PySem.W.OpenLaw} {n k : Nat} {q : Program} {loose : List Str} {XP : (Str → Option Value) → Heap → Prop} {YP : World → Heap → Prop} {d : DefRec} {K : Params → PySem.W.Frag} {sp : PySem.W.Frag → Sp} {x : Str}
    (hn : l.most = some n) (hn2 : n ≤ sizeLine) (hdf : d.params.defaults = []) (hr : Room k callerA)
    (hY : ∀ (w : World) (h : Heap), YP w h → (K w.params).In h)
    (F : ∀ (w : World) (mg : Str → Option Value) (fa : Addr) (h : Heap), (K w.params).In h → h.Ns mainGlobals mg → mg d.name = some (.ref fa) →
      ∃ fd : FuncData, (∀ (s : Shared) (u : Value), BindsTo s fd ⟨[u], []⟩ [(x, u)]) ∧
        ∀ base : Heap, (K w.params).In base → base.Ns mainGlobals mg → FnG l.prog w (K w.params) mg base CX0 k fa fd [x] (sp (K w.params)))
    (hsp : ∀ (K : PySem.W.Frag) (H : Hp) (a : Addr) (ns : List Int), ns.length ≤ n → SqL K H a (ns.map V.int) → sp K [.ref a] H (fun v _ => v = .bl true) fun _ _ _ => False) :
    PySem.W.WalkO q loose XP YP l.row.toRowW d [] (fun f vs => PySem.call f vs) :=
  Att.attach_call hn hdf fun w s₀ s₁ mg mb fa o pm cd doc a vs ns G Y ho hd hcd hmg hobj hints hlen hg =>
    have KX := hY w _ Y
    let ⟨fd, hb, hF⟩ := F w mg fa _ KX G.T.g hmg
    law_callG KX G.T.g G.T.b G.T.builtins G.T.nolimit hg hobj hints (Nat.le_trans hlen hn2) hr hF hb fun H hS => hsp _ H a ns hlen hS
end MB

set_option maxHeartbeats 4000000
namespace MB
open PySem PySem.Spec PyProof.Rows L2
/-- data whose repr is asked: levels, size -/
structure Rp (k n : Nat) (d : PyData) : Prop where
  sh : Sh k d
  shw : d.showable = true
  short : d.leavesShort 13 = true
  bulk : d.bulk ≤ n
theorem Rp.mono {k n m : Nat} {d : PyData} (h : Rp k n d) (e : n ≤ m) : Rp k m d := ⟨h.sh, h.shw, h.short, Nat.le_trans h.bulk e⟩
theorem Rp.int {i : Int} {k : Nat} (h : i.natAbs < 1000000) : Rp k 0 (.int i) := by
  refine ⟨.int i, ?_, ?_, by simp [PyData.bulk]⟩
  · simp only [PyData.showable]
    refine decide_eq_true ?_
    by_cases h0 : i.natAbs = 0
    · rw [h0]; decide
    · exact Nat.lt_trans ((Nat.log2_lt h0).mpr (show i.natAbs < 2 ^ 20 by omega)) (by decide)
  · simp only [PyData.leavesShort]
    refine decide_eq_true ?_
    have e := int_text_length_le10 (a := i) (k := 6) (by decide) h
    have e2 : (PyData.shown (.int i)).length = (toString i).length := by
      simp only [PyData.shown]
      exact PySem.ofString_length _
    omega
theorem rp_all {k n : Nat} : ∀ {ds : List PyData}, (∀ d, d ∈ ds → Rp k n d) → PyData.showableAll ds = true ∧ PyData.leavesShortAll 13 ds = true ∧ PyData.bulkAll ds ≤ (n + 1) * ds.length
  | [], _ => ⟨by simp [PyData.showableAll], by simp [PyData.leavesShortAll], by simp [PyData.bulkAll]⟩
  | d :: ds, h => by
    have h1 := h d (List.mem_cons_self ..)
    obtain ⟨a, b, c⟩ := rp_all fun e he => h e (List.mem_cons_of_mem _ he)
    refine ⟨by simp only [PyData.showableAll, h1.shw, a, Bool.and_self], by simp only [PyData.leavesShortAll, h1.short, b, Bool.and_self], ?_⟩
    simp only [PyData.bulkAll, List.length_cons]
    have := h1.bulk
    rw [Nat.mul_add]
    omega
theorem Rp.tup {k n m : Nat} {ds : List PyData} (h : ∀ d, d ∈ ds → Rp k n d) (hm : (n + 1) * ds.length ≤ m) : Rp (k + 1) m (.tuple ds) := by
  obtain ⟨a, b, c⟩ := rp_all h
  exact ⟨Sh.tup fun d hd => (h d hd).sh, by simp only [PyData.showable]; exact a, by simp only [PyData.leavesShort]; exact b, by simp only [PyData.bulk]; omega⟩
theorem Rp.lst {k n m : Nat} {ds : List PyData} (h : ∀ d, d ∈ ds → Rp k n d) (hm : (n + 1) * ds.length ≤ m) : Rp (k + 1) m (.list ds) := by
  obtain ⟨a, b, c⟩ := rp_all h
  exact ⟨Sh.lst fun d hd => (h d hd).sh, by simp only [PyData.showable]; exact a, by simp only [PyData.leavesShort]; exact b, by simp only [PyData.bulk]; omega⟩
theorem Rp.ints {ns : List Int} {k m : Nat} (h : ∀ i, i ∈ ns → i.natAbs < 1000000) (hm : ns.length ≤ m) : Rp (k + 1) m (.tuple (ns.map PyData.int)) :=
  Rp.tup (n := 0) (fun d hd => by obtain ⟨i, hi, rfl⟩ := List.mem_map.mp hd; exact .int (h i hi)) (by rw [List.length_map]; omega)
theorem Rp.bool {b : Bool} {k : Nat} : Rp k 0 (.bool b) := ⟨⟨by simp [PyData.canLay0], by simp [PyData.depth]⟩, by simp [PyData.showable], by simp [PyData.leavesShort], by simp [PyData.bulk]⟩
/-- repr(x), by data -/
theorem repr_read {K : PySem.W.Frag} {H : Hp} {x : V} {d : PyData} {Q : VK} {k n : Nat} (hd : Dp K H x d) (hs : Rp k n d) (hk : k ≤ 60) (hn : n ≤ 1048576) (q : Q (.str d.shown) H) : rReprD K [x] H Q :=
  ⟨x, d, rfl, hd, hs.sh.1, hs.shw, Nat.le_trans hs.sh.2 hk, PyData.shown_fits_bulk (B := 13) (by decide) (by decide) hs.short (Nat.le_trans hs.bulk (by omega)), q⟩
theorem Rp.all {k n : Nat} {d : PyData} (hs : Rp k n d) (hk : k ≤ 60) (hn : n ≤ 1048576) : d.canLay0 = true ∧ d.showable = true ∧ d.depth ≤ 60 ∧ d.shown.length ≤ sizeLine :=
  ⟨hs.sh.1, hs.shw, Nat.le_trans hs.sh.2 hk, PyData.shown_fits_bulk (B := 13) (by decide) (by decide) hs.short (Nat.le_trans hs.bulk (by omega))⟩
end MB

set_option maxHeartbeats 4000000
namespace MB
open PySem PySem.Spec PyProof.Rows L2
/-- data whose repr is asked: levels, size -/
structure RpW (k n : Nat) (d : PyData) : Prop where
  sh : Sh k d
  shw : d.showable = true
  short : d.leavesShort  75 = true
  bulk : d.bulk ≤ n
theorem RpW.mono {k n m : Nat} {d : PyData} (h : RpW k n d) (e : n ≤ m) : RpW k m d := ⟨h.sh, h.shw, h.short, Nat.le_trans h.bulk e⟩
theorem RpW.int {i : Int} {k : Nat} (h : i.natAbs < 10 ^ 70) : RpW k 0 (.int i) := by
  refine ⟨.int i, ?_, ?_, by simp [PyData.bulk]⟩
  · simp only [PyData.showable]
    refine decide_eq_true ?_
    by_cases h0 : i.natAbs = 0
    · rw [h0]; decide
    · exact Nat.lt_trans ((Nat.log2_lt h0).mpr (show i.natAbs < 2 ^ 240 by exact Nat.lt_trans h (by decide +kernel))) (by decide)
  · simp only [PyData.leavesShort]
    refine decide_eq_true ?_
    have e := int_text_length_le10 (a := i) (k := 70) (by decide) h
    have e2 : (PyData.shown (.int i)).length = (toString i).length := by
      simp only [PyData.shown]
      exact PySem.ofString_length _
    omega
theorem rpW_all {k n : Nat} : ∀ {ds : List PyData}, (∀ d, d ∈ ds → RpW k n d) → PyData.showableAll ds = true ∧ PyData.leavesShortAll  75 ds = true ∧ PyData.bulkAll ds ≤ (n + 1) * ds.length
  | [], _ => ⟨by simp [PyData.showableAll], by simp [PyData.leavesShortAll], by simp [PyData.bulkAll]⟩
  | d :: ds, h => by
    have h1 := h d (List.mem_cons_self ..)
    obtain ⟨a, b, c⟩ := rpW_all fun e he => h e (List.mem_cons_of_mem _ he)
    refine ⟨by simp only [PyData.showableAll, h1.shw, a, Bool.and_self], by simp only [PyData.leavesShortAll, h1.short, b, Bool.and_self], ?_⟩
    simp only [PyData.bulkAll, List.length_cons]
    have := h1.bulk
    rw [Nat.mul_add]
    omega
theorem RpW.tup {k n m : Nat} {ds : List PyData} (h : ∀ d, d ∈ ds → RpW k n d) (hm : (n + 1) * ds.length ≤ m) : RpW (k + 1) m (.tuple ds) := by
  obtain ⟨a, b, c⟩ := rpW_all h
  exact ⟨Sh.tup fun d hd => (h d hd).sh, by simp only [PyData.showable]; exact a, by simp only [PyData.leavesShort]; exact b, by simp only [PyData.bulk]; omega⟩
theorem RpW.lst {k n m : Nat} {ds : List PyData} (h : ∀ d, d ∈ ds → RpW k n d) (hm : (n + 1) * ds.length ≤ m) : RpW (k + 1) m (.list ds) := by
  obtain ⟨a, b, c⟩ := rpW_all h
  exact ⟨Sh.lst fun d hd => (h d hd).sh, by simp only [PyData.showable]; exact a, by simp only [PyData.leavesShort]; exact b, by simp only [PyData.bulk]; omega⟩
theorem RpW.ints {ns : List Int} {k m : Nat} (h : ∀ i, i ∈ ns → i.natAbs < 10 ^ 70) (hm : ns.length ≤ m) : RpW (k + 1) m (.tuple (ns.map PyData.int)) :=
  RpW.tup (n := 0) (fun d hd => by obtain ⟨i, hi, rfl⟩ := List.mem_map.mp hd; exact .int (h i hi)) (by rw [List.length_map]; omega)
theorem RpW.bool {b : Bool} {k : Nat} : RpW k 0 (.bool b) := ⟨⟨by simp [PyData.canLay0], by simp [PyData.depth]⟩, by simp [PyData.showable], by simp [PyData.leavesShort], by simp [PyData.bulk]⟩
theorem fits75 {d : PyData} (hl : d.leavesShort 75 = true) (hw : d.bulk ≤ 100000) : d.shown.length ≤ sizeLine := by
  have h := PyData.shown_le_bulk 75 (by decide) d hl
  have h2 : (75 + 2) * d.bulk ≤ 77 * 100000 := Nat.mul_le_mul (by omega) (by omega)
  have e : sizeLine = 16777216 := by decide
  omega
/-- repr(x), by data -/
theorem reprW_read {K : PySem.W.Frag} {H : Hp} {x : V} {d : PyData} {Q : VK} {k n : Nat} (hd : Dp K H x d) (hs : RpW k n d) (hk : k ≤ 60) (hn : n ≤ 100000) (q : Q (.str d.shown) H) : rReprD K [x] H Q :=
  ⟨x, d, rfl, hd, hs.sh.1, hs.shw, Nat.le_trans hs.sh.2 hk, fits75 hs.short (Nat.le_trans hs.bulk hn), q⟩
theorem RpW.all {k n : Nat} {d : PyData} (hs : RpW k n d) (hk : k ≤ 60) (hn : n ≤ 100000) : d.canLay0 = true ∧ d.showable = true ∧ d.depth ≤ 60 ∧ d.shown.length ≤ sizeLine :=
  ⟨hs.sh.1, hs.shw, Nat.le_trans hs.sh.2 hk, fits75 hs.short (Nat.le_trans hs.bulk hn)⟩
end MB

set_option maxHeartbeats 4000000
namespace MB
open PySem PySem.Spec PyProof.Rows L2
/-! ### data of any kind, dicts among them -/
def kD : Key → PyData
  | .inl i => .int i
  | .inr x => .str x
mutual
inductive Dq (K : PySem.W.Frag) (H : Hp) : V → PyData → Prop
  | nonq : Dq K H .non .none
  | blq (b : Bool) : Dq K H (.bl b) (.bool b)
  | intq (i : Int) : Dq K H (.int i) (.int i)
  | strq (x : Str) : Dq K H (.str x) (.str x)
  | lstq {a : Addr} {xs : List V} {ds : List PyData} : SqL K H a xs → a ≠ sysModules → DqAll K H xs ds → Dq K H (.ref a) (.list ds)
  | tupq {a : Addr} {xs : List V} {ds : List PyData} : SqT K H a xs → DqAll K H xs ds → Dq K H (.ref a) (.tuple ds)
  | dctq {a : Addr} {kvs : List (Key × V)} {des : List (PyData × PyData)} : H a = some (.dK kvs) → des.map (·.1) = kvs.map (fun p => kD p.1) → DqAll K H (kvs.map (·.2)) (des.map (·.2)) → Dq K H (.ref a) (.dict des)
inductive DqAll (K : PySem.W.Frag) (H : Hp) : List V → List PyData → Prop
  | nil : DqAll K H [] []
  | cons {v : V} {vs : List V} {d : PyData} {ds : List PyData} : Dq K H v d → DqAll K H vs ds → DqAll K H (v :: vs) (d :: ds)
end
section
variable {X : Cx} {pins : List (Addr × Obj)} {σ : L2.St} {H : Hp} {s : Shared}
theorem keys_read {h : Heap} {P : Program} {w : World} {es : List DictEntry} {vs : List (Key × Value)} (hp : Pairs (mixKind P w) es vs) : ∀ {kvs : List (Key × V)}, KV kvs vs →
    ReadsAll h (es.map (·.key)) (kvs.map fun p => kD p.1) [] ∧ Vals (kvs.map (·.2)) (es.map (·.val)) := by
  induction hp with
  | nil => intro kvs r; cases r; exact ⟨.nil, .nil⟩
  | @cons e kv es vs a b c ih =>
    intro kvs r
    cases r with
    | @cons p _ ps _ r t =>
      obtain ⟨h1, h2⟩ := ih t
      obtain ⟨r1, r2⟩ := r
      have r3 : RelV p.2 e.val := by rw [b]; exact r2
      refine ⟨?_, .cons r3 h2⟩
      have e1 : keyIs kv.1 e.key = true := a
      rw [List.map_cons, List.map_cons, r1]
      rcases keyIs_shape e1 with ⟨i, t, h3, h4⟩ | ⟨x, t, h3, h4⟩
      · rw [h3, h4]; exact ReadsAll.cons (as := []) (bs := []) (.int i t) h1
      · rw [h3, h4]; exact ReadsAll.cons (as := []) (bs := []) (.str x t) h1
theorem Dq.reads (I : Inv X pins σ H s) {d : PyData} {v : V} (hq : Dq X.K H v d) : ∀ u : Value, RelV v u → ∃ as, Reads s.heap u d as ∧ sysModules ∉ as := by
  refine Dq.rec (motive_1 := fun v d _ => ∀ u : Value, RelV v u → ∃ as, Reads s.heap u d as ∧ sysModules ∉ as) (motive_2 := fun vs ds _ => ∀ us : List Value, Vals vs us → ∃ as, ReadsAll s.heap us ds as ∧ sysModules ∉ as) ?_ ?_ ?_ ?_ ?_ ?_ ?_ ?_ ?_ hq
  · intro u r; cases r; exact ⟨_, .none, by simp⟩
  · intro b u r; cases r; exact ⟨_, .bool b, by simp⟩
  · intro i u r; obtain ⟨t, rfl⟩ := r; exact ⟨_, .int i t, by simp⟩
  · intro x u r; obtain ⟨t, rfl⟩ := r; exact ⟨_, .str x t, by simp⟩
  · intro a xs ds hs hne _ ih u r
    cases r
    obtain ⟨its, rv, ⟨o, n, h1, h2, h3, h4⟩, _⟩ := I.list hs
    obtain ⟨as, ra, na⟩ := ih _ rv
    refine ⟨_, .list h1 h2 h4 (by simpa using ra), ?_⟩
    intro hm
    rcases List.mem_cons.mp hm with e | e
    · exact hne e.symm
    · exact na e
  · intro a xs ds hs _ ih u r
    cases r
    obtain ⟨its, rv, ⟨o, h1, h2, n, h3⟩, _⟩ := I.tuple hs
    obtain ⟨as, ra, na⟩ := ih _ rv
    exact ⟨_, .tuple h1 h2 h3 (by simpa using ra), na⟩
  · intro a kvs des he hk _ ih u r
    cases r
    obtain ⟨_, hsys, vs, kv, o, es, ep, h1, h2, h3, _, h5, _⟩ := dk_of I.hok he
    obtain ⟨g1, g2⟩ := keys_read (h := s.heap) h5 kv
    obtain ⟨bs, rb, nb⟩ := ih _ g2
    refine ⟨_, .dict h1 h2.1 h3 (by rw [hk]; exact g1) rb, ?_⟩
    intro hm
    rcases List.mem_cons.mp hm with e | e
    · rw [← e] at hsys; simp at hsys
    · exact nb (by simpa using e)
  · intro us t; cases t; exact ⟨_, .nil, by simp⟩
  · intro v vs d ds _ _ h1 h2 us t
    cases t with
    | cons r t =>
      obtain ⟨as, g1, n1⟩ := h1 _ r
      obtain ⟨bs, g2, n2⟩ := h2 _ t
      exact ⟨_, .cons g1 g2, by simp [n1, n2]⟩
end
theorem Dq.same {K : PySem.W.Frag} {H H' : Hp} (e : Same H H') {v : V} {d : PyData} (h : Dq K H v d) : Dq K H' v d := by
  refine Dq.rec (motive_1 := fun v d _ => Dq K H' v d) (motive_2 := fun vs ds _ => DqAll K H' vs ds) ?_ ?_ ?_ ?_ ?_ ?_ ?_ ?_ ?_ h
  · exact .nonq
  · intro b; exact .blq b
  · intro i; exact .intq i
  · intro x; exact .strq x
  · intro a xs ds hs hne _ ih; exact .lstq (e.seq hs) hne ih
  · intro a xs ds hs _ ih; exact .tupq (Same.tup e hs) ih
  · intro a kvs des he hk _ ih; exact .dctq (e _ _ he) hk ih
  · exact .nil
  · intro v vs d ds _ _ h1 h2; exact .cons h1 h2
theorem DqAll.same {K : PySem.W.Frag} {H H' : Hp} (e : Same H H') : ∀ {vs : List V} {ds : List PyData}, DqAll K H vs ds → DqAll K H' vs ds
  | _, _, .nil => .nil
  | _, _, .cons a b => .cons (Dq.same e a) (DqAll.same e b)
/-! ### repr -/
def rReprQ (K : PySem.W.Frag) : List V → Hp → VK → Prop := fun xs H Q => ∃ (x : V) (d : PyData), xs = [x] ∧ Dq K H x d ∧ d.showable = true ∧ d.depth ≤ 60 ∧ d.shown.length ≤ sizeLine ∧ Q (.str d.shown) H
theorem call_reprQ {X : Cx} (hgd : X.A.guards = some []) (hu : X.A.units + 64 < cLine) : CallR X (.builtin "repr") (rReprQ X.K) := by
  intro pins s σ H xs us Q I r h
  obtain ⟨x, d, rfl, hd, hs, hdep, hz, q⟩ := h
  obtain ⟨u, rfl, rx⟩ := vals1 r
  obtain ⟨as, rd, nsys⟩ := Dq.reads I hd u rx
  have fin : ∀ (h' : Heap) (v tk : Tok), (∀ b o, s.heap.get? b = some o → h'.get? b = some o) → EP X pins σ Q (.str d.shown v) { s with heap := h', toks := tk } := fun h' v tk hk => ⟨.str d.shown, H, I.kept hk, ⟨_, rfl⟩, q⟩
  cases rd with
  | none => exact PySem.P.repr_of_none (fin _ _ _ fun _ _ e => e)
  | bool b =>
    refine PySem.P.repr_of_bool ?_
    cases b <;> exact fin s.heap s.toks (s.toks + 1) fun _ _ e => e
  | int i t => exact PySem.P.repr_of_int (by simpa [PyData.showable] using hs) (fin s.heap s.toks (s.toks + 1) fun _ _ e => e)
  | str y t => exact PySem.P.repr_of_str (fin s.heap s.toks (s.toks + 1) fun _ _ e => e) hz
  | list h1 h2 h3 h4 => exact repr_of_reads' (.list h1 h2 h3 h4) hs (fun _ => nsys) hgd (by omega) (fun _ _ e => e) fin hz
  | tuple h1 h2 h3 h4 => exact repr_of_reads' (.tuple h1 h2 h3 h4) hs (fun _ => nsys) hgd (by omega) (fun _ _ e => e) fin hz
  | dict h1 h2 h3 h4 h5 => exact repr_of_reads' (.dict h1 h2 h3 h4 h5) hs (fun _ => nsys) hgd (by omega) (fun _ _ e => e) fin hz
theorem k_reprQ {X : Cx} {K : PySem.W.Frag} (e : X.K = K) (hgd : X.A.guards = some []) (hu : X.A.units + 64 < cLine) : CallR X (.builtin "repr") (rReprQ K) := by
  rw [← e]; exact call_reprQ hgd hu
end MB

set_option maxHeartbeats 4000000
namespace MB
open PySem PySem.Spec PyProof.Rows L2

/-! ### f(p = v), no value by position -/
def gK {α : Type} (us ws : List α) : List α := match us with
  | [] => ws
  | _ :: _ => []
section
variable {X : Cx} {CX : CXT} {k : Nat} {f : Addr} {fd : FuncData} {ps ks : List Str} {sp : Sp} {E : XK} {x : Str} {p pos : Pos} {kws : List Keyword} {tk : TA} {g : List Value → List Value → List Value} {gV : List V → List V → List V}
theorem pe_callK0 (F : FnOk X.prog X.w X.K X.mg X.base CX k f fd ps sp) (hr : Room k X.A) (hg : Gl X x) (hm : X.mg x = some (.ref f)) (hk : PySem.W.keepIn X.K (.ref f) = true) (hb : KBinds X.K fd ps ks g gV) (hx : Passes CX X E)
    (hkw : PK X kws tk) (hall : (backToKw pos (keywordEach kws X.env)).all (·.1.isSome) = true := by rfl) (hks : (backToKw pos (keywordEach kws X.env)).filterMap (·.1) = ks := by rfl)
    (hdb : (x == ("__debug__" : Str)) = false := by decide)
    (hpl : ((backTo pos (starEach [] X.env)).any (·.1) || (backToKw pos (keywordEach kws X.env)).any (·.1.isNone)) = false := by rfl) :
    PE X (.Call (.Name x p) [] kws pos) (tCallK sp gV E tNil tk) := by
  refine ⟨fun pins s σ H Q I h => ?_⟩
  refine wpAny_Call_Name_kw (ld_glob I hg hm ?_ hdb)
  refine PySem.W.callWith_KW0 (h₀ := X.base) I.ok.mod.kin hk hall ?_ hpl
  refine thn (hkw.run pos pins s σ H _ I h) fun ws s2 ⟨zs, H2, I2, rz, q2⟩ => ⟨I2.kIn, ?_⟩
  rw [hks]
  exact run_fnk (us := []) (vs := []) F hr hb hx I2 .nil rz q2
end
theorem kb1 {K : PySem.W.Frag} {x qual : Str} {st : Stmt} {f : Addr} {fd : FuncData} {q : Str} (F : L2.Fun K x qual st f fd)
    (h : ∀ (kV doc pm : Value) (an : Option Addr) (cdv ct u : Value), bindArgs (PySem.W.fnOf x qual (defArgs st) (defBody st) (defScope st) .none kV doc pm an cdv ct) ⟨[], [(q, u)]⟩ = pure [(q, u)]) : KBinds K fd [q] [q] gK gK := by
  obtain ⟨oc, od, kV, doc, pm, an, cdv, ct, osl, rfl, lk, hcd⟩ := F.ex
  refine ⟨fun s us ws _ hl => ?_, fun {vs us zs ws} r1 r2 => ?_⟩
  · cases us with
    | cons u us => exact nomatch hl
    | nil =>
      match ws, hl with
      | [u], _ => exact .of_eq (h kV doc pm an cdv ct u)
  · cases r1 with
    | nil => exact r2
    | cons _ _ => exact .nil

/-! ### a comprehension with a test -/
theorem lc_sel {K : PySem.W.Frag} {J : It} {n : Nat} {G : Hp → Prop} {Y : Nat → Hp → V → Hp → Prop} (w : Walk J n G Y) {g : TG} {tt : TT} {te : TE} {vs : List Nat} {σ : L2.St} {H1 : Hp} {D : Addr} {Qd : Hp → Prop}
    (f : Nat → Bool) (d : Nat → PyData) (ht : ∀ i, i < n → Tf (d i)) (hn : n ≤ 1000) (hD : H1 D = none) (hG : ∀ H, Same H1 H → G H)
    (hs : ∀ i x H H', i < n → Same H1 H → Y i H x H' → ∀ R : V → Hp → Prop, (∀ y H4, Same H H4 → Dp K H4 y (d i) → R y H4) →
      g x (wipe σ vs) H' fun σ2 H2 => wipe σ2 vs = wipe σ vs ∧ tt σ2 H2 fun b H3 => b = f i ∧ Same H H3 ∧ (b = true → te σ2 H3 R))
    (hd : ∀ H acc, Same H1 H → H D = some (.lst acc) → DpAll K H acc (((List.range n).filter f).map d) → Qd H)
    (mg : ∀ x σ' H' (Q Q' : L2.St → Hp → Prop), (∀ a b, Q a b → Q' a b) → g x σ' H' Q → g x σ' H' Q') (mt : ∀ σ' H' (Q Q' : Bool → Hp → Prop), (∀ a b, Q a b → Q' a b) → tt σ' H' Q → tt σ' H' Q') :
    ∃ W : Nat → Nat → Hp → Prop, (∃ m, W 0 m (upd H1 D (.lst []))) ∧ ∀ i m H, W i m H →
      (J.stop i H ∧ Qd H) ∨ (J.go i H ∧ ∃ Nx : Hp → Prop, (∀ H', Nx H' → ∃ m', m' < m ∧ W (i + 1) m' H') ∧ ∀ x H', J.yld i H x H' → g x (wipe σ vs) H' fun σ2 H2 => wipe σ2 vs = wipe σ vs ∧ tt σ2 H2 fun b H3 =>
        if b = true then te σ2 H3 fun y H4 => ∃ acc, H4 D = some (.lst acc) ∧ acc.length < sizeLine ∧ Nx (upd H4 D (.lst (acc ++ [y]))) else Nx H3) := by
  refine lc_it w (fun i H => Same H1 H ∧ ∃ acc, H D = some (.lst acc) ∧ DpAll K H acc (((List.range i).filter f).map d)) ⟨same_upd hD, [], upd_same, .nil⟩ (fun i H _ h => hG H h.1) ?_ ?_
  · rintro i x H H' hi ⟨s1, acc, ha, hA⟩ hy
    have hlen := DpAll.len hA
    have hle : acc.length ≤ i := by
      rw [hlen, List.length_map]
      have := List.length_filter_le f (List.range i)
      rw [List.length_range] at this
      exact this
    refine mg _ _ _ _ _ ?_ (hs i x H H' hi s1 hy (fun y H4 => ∃ acc, H4 D = some (.lst acc) ∧ acc.length < sizeLine ∧ (f i = true → Same H1 (upd H4 D (.lst (acc ++ [y]))) ∧ ∃ acc', (upd H4 D (.lst (acc ++ [y]))) D = some (.lst acc') ∧ DpAll K (upd H4 D (.lst (acc ++ [y]))) acc' (((List.range (i + 1)).filter f).map d))) ?_)
    · rintro σ2 H2 ⟨h1, h2⟩
      refine ⟨h1, mt _ _ _ _ ?_ h2⟩
      rintro b H3 ⟨hb, s3, h3⟩
      cases b with
      | true =>
        refine iteT ?_
        have h4 := h3 rfl
        have hb' := hb.symm
        simp only [hb', true_implies] at h4
        exact h4
      | false =>
        refine iteF ⟨s1.trans s3, acc, s3 _ _ ha, ?_⟩
        rw [List.range_succ, List.filter_append, List.map_append]
        have e : List.filter f [i] = [] := by rw [List.filter_cons, if_neg (by rw [← hb]; decide)]; rfl
        rw [e, List.map_nil, List.append_nil]
        exact DpAll.same s3 hA
    · intro y H4 s4 hy4
      refine ⟨acc, s4 _ _ ha, sz61 (by omega), fun hf => ⟨Same.mut (s1.trans s4) hD, acc ++ [y], upd_same, ?_⟩⟩
      have kp : Keep K H4 (upd H4 D (.lst (acc ++ [y]))) := But.keep But.upd (s4 _ _ ha)
      have e : List.filter f [i] = [i] := by rw [List.filter_cons, if_pos hf]; rfl
      rw [List.range_succ, List.filter_append, List.map_append, e]
      refine DpAll.keep kp (fun d' h => ?_) (DpAll.append (DpAll.same s4 hA) (.cons hy4 .nil))
      rcases List.mem_append.mp h with h | h
      · obtain ⟨j, hj, rfl⟩ := List.mem_map.mp h
        have := List.mem_range.mp (List.mem_filter.mp hj).1
        exact ht j (by omega)
      · have e : d' = d i := by simpa using h
        rw [e]; exact ht i hi
  · rintro H ⟨s1, acc, ha, hA⟩
    exact hd H acc s1 ha hA
end MB

set_option maxHeartbeats 4000000
namespace MB
open PySem PySem.Spec PyProof.Rows L2
/-! ### x *= e -/
theorem ip_mulW {X : Cx} : PIp X .Mult (fun x y H Q => ∃ i j, x = .int i ∧ y = .int j ∧ CMulW i j ∧ Q (.int (i * j)) H) := by
  intro pins s σ H x y v u Q I r1 r2 h
  obtain ⟨i, j, e1, e2, hc, q⟩ := h
  subst e1; subst e2
  obtain ⟨t, rfl⟩ := r1
  obtain ⟨t', rfl⟩ := r2
  exact imul_int ⟨.int _, H, I.tok _, ⟨_, rfl⟩, q⟩ hc.ok
/-! ### f(q = v, p = w): by keywords in any order -/
def gP {α : Type} (idx : List Nat) (us ws : List α) : List α := match us with
  | [] => idx.filterMap fun i => ws[i]?
  | _ :: _ => []
theorem gP_take {α : Type} {n : Nat} {ws : List α} : ∀ {idx : List Nat}, (∀ i, i ∈ idx → i < n) → (idx.filterMap fun i => (ws.take n)[i]?) = idx.filterMap fun i => ws[i]?
  | [], _ => rfl
  | i :: idx, h => by
    have h1 := h i (List.mem_cons_self ..)
    have h2 := gP_take (α := α) (n := n) (ws := ws) (idx := idx) fun j hj => h j (List.mem_cons_of_mem _ hj)
    rw [List.filterMap_cons, List.filterMap_cons, h2, List.getElem?_take, if_pos h1]
theorem gP_len {α : Type} {ws : List α} : ∀ {idx : List Nat}, (idx.filterMap fun i => ws[i]?).length = idx.length → ∀ i, i ∈ idx → i < ws.length
  | [], _, i, h => nomatch h
  | j :: idx, hl, i, h => by
    cases e : ws[j]? with
    | none =>
      simp only [List.filterMap_cons, e] at hl
      have := List.length_filterMap_le (fun i => ws[i]?) idx
      simp only [List.length_cons] at hl
      omega
    | some x =>
      simp only [List.filterMap_cons, e, List.length_cons, Nat.add_right_cancel_iff] at hl
      rcases List.mem_cons.mp h with h | h
      · subst h
        exact (List.getElem?_eq_some_iff.mp e).1
      · exact gP_len hl i h
theorem gP_rel {zs : List V} {ws : List Value} (r : Vals zs ws) : ∀ idx : List Nat, Vals (idx.filterMap fun i => zs[i]?) (idx.filterMap fun i => ws[i]?)
  | [] => .nil
  | i :: idx => by
    have ih := gP_rel r idx
    cases e : zs[i]? with
    | none =>
      have e2 : ws[i]? = none := List.getElem?_eq_none (by rw [← r.length]; exact List.getElem?_eq_none_iff.mp e)
      simp only [List.filterMap_cons, e, e2]; exact ih
    | some x =>
      obtain ⟨u, e2, ru⟩ := r.get e
      simp only [List.filterMap_cons, e, e2]; exact .cons ru ih
theorem zip_take {α β : Type} : ∀ (ks : List α) (ws : List β), ks.zip (ws.take ks.length) = ks.zip ws
  | [], _ => rfl
  | _ :: _, [] => rfl
  | k :: ks, w :: ws => by simp [zip_take ks ws]
theorem kbP {K : PySem.W.Frag} {x qual : Str} {st : Stmt} {f : Addr} {fd : FuncData} {ps ks : List Str} {idx : List Nat} (F : L2.Fun K x qual st f fd) (hi : idx.length = ps.length) (hk : ks.length = ps.length) (hp : 0 < ps.length)
    (hall : (∀ i, i ∈ idx → i < ps.length) ∧ ps.length - 1 ∈ idx)
    (h : ∀ (kV doc pm : Value) (an : Option Addr) (cdv ct : Value) (ws : List Value), ws.length = ps.length → bindArgs (PySem.W.fnOf x qual (defArgs st) (defBody st) (defScope st) .none kV doc pm an cdv ct) ⟨[], ks.zip ws⟩ = pure (ps.zip (gP idx [] ws))) : KBinds K fd ps ks (gP idx) (gP idx) := by
  obtain ⟨oc, od, kV, doc, pm, an, cdv, ct, osl, rfl, lk, hcd⟩ := F.ex
  refine ⟨fun s us ws _ hl => ?_, fun {vs us zs ws} r1 r2 => ?_⟩
  · cases us with
    | cons u us =>
      have : 0 = ps.length := hl
      omega
    | nil =>
      have hl' : (idx.filterMap fun i => ws[i]?).length = idx.length := by rw [hi]; exact hl
      have h2 := gP_len hl' _ hall.2
      have h3 := h kV doc pm an cdv ct (ws.take ps.length) (by rw [List.length_take]; omega)
      have e1 : gP idx [] (ws.take ps.length) = gP idx [] ws := gP_take hall.1
      have e2 : ks.zip (ws.take ps.length) = ks.zip ws := by
        rw [← hk]
        exact zip_take ks ws
      rw [e1, e2] at h3
      exact .of_eq h3
  · cases r1 with
    | nil => exact gP_rel r2 idx
    | cons _ _ => exact .nil
section
variable {X : Cx} {CX : CXT} {k : Nat} {f : Addr} {fd : FuncData} {ps ks : List Str} {sp : Sp} {E : XK} {x : Str} {p pos : Pos} {kws : List Keyword} {tk : TA} {g : List Value → List Value → List Value} {gV : List V → List V → List V}
end
end MB

set_option maxHeartbeats 4000000
namespace MB
open PySem PySem.Spec PyProof.Rows L2
/-! ### f(u, q = v, ..): one argument by place, the others by name in their order -/
def gQ {α : Type} (m : Nat) (us ws : List α) : List α := match us with
  | [u] => u :: ws.take m
  | _ => []
theorem kbQ {K : PySem.W.Frag} {x qual : Str} {st : Stmt} {f : Addr} {fd : FuncData} {p0 : Str} {ks : List Str} (F : L2.Fun K x qual st f fd)
    (h : ∀ (kV doc pm : Value) (an : Option Addr) (cdv ct u : Value) (ws : List Value), ws.length = ks.length → bindArgs (PySem.W.fnOf x qual (defArgs st) (defBody st) (defScope st) .none kV doc pm an cdv ct) ⟨[u], ks.zip ws⟩ = pure ((p0 :: ks).zip (u :: ws))) : KBinds K fd (p0 :: ks) ks (gQ ks.length) (gQ ks.length) := by
  obtain ⟨oc, od, kV, doc, pm, an, cdv, ct, osl, rfl, lk, hcd⟩ := F.ex
  refine ⟨fun s us ws _ hl => ?_, fun {vs us zs ws} r1 r2 => ?_⟩
  · match us, hl with
    | [u], hl =>
      have hl' : (ws.take ks.length).length = ks.length := by
        have : (u :: ws.take ks.length).length = ks.length + 1 := hl
        simpa using this
      have h3 := h kV doc pm an cdv ct u (ws.take ks.length) hl'
      rw [zip_take ks ws] at h3
      exact .of_eq h3
  · cases r1 with
    | nil => exact .nil
    | cons r1 r =>
      cases r with
      | nil => exact .cons r1 (r2.take _)
      | cons _ _ => exact .nil
/-- a dividend below 2 ^ 4000 is divided by C -/
theorem divp_nat {i j : Nat} (hj : 0 < j) (h : i < 2 ^ 4000) : CDivP (i : Int) (j : Int) := by
  refine divp_ok (by omega) ?_
  have : Builtin.Int.intBits (i : Int) ≤ 4000 := by
    unfold Builtin.Int.intBits
    split
    · omega
    · rename_i z
      have hi : i ≠ 0 := fun e => z (by simp [e])
      rw [Int.natAbs_natCast]
      have := (Nat.log2_lt hi).mpr h
      omega
  omega
end MB

set_option maxHeartbeats 4000000
namespace MB
open PySem PySem.Spec PyProof.Rows L2
def clsDef (s : Stmt) : Stmt := match s with
  | .ClassDef _ _ _ b _ _ _ _ _ _ _ => b.getD 0 (.Pass ⟨0, 0, 0, 0⟩)
  | t => t
/-! ### own exceptions as values -/
/-- at a: a caught exception, of the class cls, its dict at d -/
def KeO (a : Addr) (cls : Value) (d : Option Addr) : HO := .ext fun h => ∃ oe vs, h.get? a = some oe ∧ oe.cls = cls ∧ oe.dict = d ∧ oe.data = .fields vs
theorem keO_ok {P : Program} {w : World} {H : Hp} {h : Heap} {a : Addr} {cls : Value} {d : Option Addr} {oe : Obj} {vs : Array Value} (e : h.get? a = some oe) (hc : oe.cls = cls) (hd : oe.dict = d) (hf : oe.data = .fields vs) : ObjOk P w H h a (KeO a cls d) :=
  ⟨⟨oe, vs, e, hc, hd, hf⟩, ⟨oe, e⟩, fun h1 h2 ⟨o1, v1, q1, q2⟩ k => ⟨o1, v1, k _ q1, q2⟩⟩
/-- at a: an own exception of the class at C; with a dict that holds fs, or with none -/
inductive XAt (H : Hp) (a C : Addr) : Option (List (Str × V)) → Prop
  | full {d : Addr} {fs : List (Str × V)} : H a = some (exo a C (some d)) → H d = some (exd d fs) → XAt H a C (some fs)
  | bare : H a = some (ExO (.ref C) a) → XAt H a C none
  | kept {d : Addr} {fs : List (Str × V)} : H a = some (KeO a (.ref C) (some d)) → H d = some (exd d fs) → XAt H a C (some fs)
  | keptd {d : Addr} {fs : List (Str × V)} : H a = some (KeO a (.ref C) (some d)) → H d = some (.xd fs) → XAt H a C (some fs)
theorem XAt.same {H H' : Hp} {a C : Addr} {o : Option (List (Str × V))} (e : Same H H') (h : XAt H a C o) : XAt H' a C o := by
  cases h with
  | full h1 h2 => exact .full (e _ _ h1) (e _ _ h2)
  | bare h1 => exact .bare (e _ _ h1)
  | kept h1 h2 => exact .kept (e _ _ h1) (e _ _ h2)
  | keptd h1 h2 => exact .keptd (e _ _ h1) (e _ _ h2)
theorem keO_at {P : Program} {w : World} {H : Hp} {h : Heap} {a C : Addr} {d : Option Addr} (k : HOk P w H h) (e : H a = some (KeO a (.ref C) d)) : ∃ o vs, h.get? a = some o ∧ o.cls = .ref C ∧ o.dict = d ∧ o.data = .fields vs := by
  obtain ⟨⟨o, vs, q1, q2, q3, q4⟩, _⟩ := k a _ e
  exact ⟨o, vs, q1, q2, q3, q4⟩
section
variable {X : Cx} {pins : List (Addr × Obj)} {σ : L2.St} {H : Hp} {s : Shared}
/-- x.f -/
def tXv (K : PySem.W.Frag) (f : Str) (te : TE) : TE := fun σ H Q => te σ H fun x H1 => ∃ (a C : Addr) (fs : List (Str × V)) (v : V), x = .ref a ∧ XAt H1 a C (some fs) ∧ XfC K C ∧ PySem.W.findIn K (.ref C) f = some none ∧ fs.lookup f = some v ∧ Q v H1
theorem pe_xv {e : Expr} {te : TE} {pos : Pos} {n : Str} (he : PE X e te) (hb : attributeBase e n X.env (eval e X.env) = eval e X.env := by rfl) : PE X (.Attribute e n pos) (tXv X.K n te) := by
  refine ⟨fun pins s σ H Q I h => ?_⟩
  refine attr_of hb (thn (he.run pins s σ H _ I h) fun u s1 hh => ?_)
  obtain ⟨x, H1, I1, rx, a, C, fs, v, ex, hx, T, hno, l, q⟩ := hh
  subst ex
  obtain rfl : u = Value.ref a := rx
  cases hx with
  | @full d _ ea ed =>
    obtain ⟨t1, ho⟩ := exo_at I1.hok ea
    obtain ⟨mA, hns, hr⟩ := exd_at I1.hok ed
    obtain ⟨od, hod, hl⟩ := lookIn_ns hns
    obtain ⟨z, hz, rz⟩ := RelO.some_of (v := v) (o := mA n) (by rw [← l]; exact hr n)
    have J : PySem.W.InstAt s1.heap a _ C (some od) := ⟨ho, rfl, rfl, hod⟩
    exact HandSPX.exc_get I1.kIn J T.ga T.gg T.exC (PySem.W.findObj_own T.hdC hno rfl (by rw [hl, hz])) (handed_of rz) ⟨v, H1, I1.tok _, rz, q⟩
  | @kept d _ ea ed =>
    obtain ⟨o, vs, ho, hcl, hdc, hfd⟩ := keO_at I1.hok ea
    obtain ⟨mA, hns, hr⟩ := exd_at I1.hok ed
    obtain ⟨od, hod, hl⟩ := lookIn_ns hns
    obtain ⟨z, hz, rz⟩ := RelO.some_of (v := v) (o := mA n) (by rw [← l]; exact hr n)
    obtain ⟨oc, odc, oda, osl⟩ := o
    dsimp only at hcl hdc hfd
    subst hcl hdc hfd
    have J : PySem.W.InstAt s1.heap a _ C (some od) := ⟨ho, rfl, rfl, hod⟩
    exact HandSPX.exc_get I1.kIn J T.ga T.gg T.exC (PySem.W.findObj_own T.hdC hno rfl (by rw [hl, hz])) (handed_of rz) ⟨v, H1, I1.tok _, rz, q⟩
  | @keptd d _ ea ed =>
    obtain ⟨o, vs, ho, hcl, hdc, hfd⟩ := keO_at I1.hok ea
    obtain ⟨mA, hns, hr⟩ := (show ObjOk X.prog X.w H1 s1.heap d (.xd _) from I1.hok d _ ed)
    obtain ⟨od, hod, hl⟩ := lookIn_ns hns
    obtain ⟨z, hz, rz⟩ := RelO.some_of (v := v) (o := mA n) (by rw [← l]; exact hr n)
    obtain ⟨oc, odc, oda, osl⟩ := o
    dsimp only at hcl hdc hfd
    subst hcl hdc hfd
    have J : PySem.W.InstAt s1.heap a _ C (some od) := ⟨ho, rfl, rfl, hod⟩
    exact HandSPX.exc_get I1.kIn J T.ga T.gg T.exC (PySem.W.findObj_own T.hdC hno rfl (by rw [hl, hz])) (handed_of rz) ⟨v, H1, I1.tok _, rz, q⟩
/-- isinstance(x, c) -/
def rIsX (K : PySem.W.Frag) : List V → Hp → VK → Prop := fun xs H Q => ∃ (a C : Addr) (o : Option (List (Str × V))) (c : V) (u : Value) (b : Bool), xs = [.ref a, c] ∧ ClsV c u ∧ XAt H a C o ∧ ExcC K C ∧ PySem.W.kitOne K (.ref C) u = some b ∧ Q (.bl b) H
theorem call_isX : CallR X (.builtin "isinstance") (rIsX X.K) := by
  intro pins s σ H xs us Q I r h
  obtain ⟨a, C, o, c, u, b, rfl, k, hx, T, e, q⟩ := h
  obtain ⟨u1, u2, rfl, r1, r2⟩ := vals2 r
  have e2 := k.eq r2
  subst e2
  cases r1
  have hcl : (PySem.W.clsIn X.K C).isSome = true := by
    obtain ⟨cd, hc, _⟩ := PySem.W.any_some T.hd
    rw [hc]; rfl
  have fin : ∀ tk, EP X pins σ Q (.bool b) { s with toks := tk } := fun tk => ⟨.bl b, H, I.tok tk, rfl, q⟩
  cases hx with
  | @full d fs ea ed =>
    obtain ⟨t1, ho⟩ := exo_at I.hok ea
    obtain ⟨mA, hns, hr⟩ := exd_at I.hok ed
    obtain ⟨od, hod, hl⟩ := lookIn_ns hns
    have J : PySem.W.InstAt s.heap a _ C (some od) := ⟨ho, rfl, rfl, hod⟩
    exact PySem.W.kia_one (PySem.W.kitx_exc hcl T.hg T.hk T.hs T.ha T.hn T.ht T.hm) I.kIn J e (fun z => nomatch z) fin
  | @kept d fs ea ed =>
    obtain ⟨o, vs, ho, hc1, hdc, hfd⟩ := keO_at I.hok ea
    obtain ⟨mA, hns, hr⟩ := exd_at I.hok ed
    obtain ⟨od, hod, hl⟩ := lookIn_ns hns
    obtain ⟨oc, odc, oda, osl⟩ := o
    dsimp only at hc1 hdc hfd
    subst hc1 hdc hfd
    have J : PySem.W.InstAt s.heap a _ C (some od) := ⟨ho, rfl, rfl, hod⟩
    exact PySem.W.kia_one (PySem.W.kitx_exc hcl T.hg T.hk T.hs T.ha T.hn T.ht T.hm) I.kIn J e (fun z => nomatch z) fin
  | @keptd d fs ea ed =>
    obtain ⟨o, vs, ho, hc1, hdc, hfd⟩ := keO_at I.hok ea
    obtain ⟨mA, hns, hr⟩ := (show ObjOk X.prog X.w H s.heap d (.xd fs) from I.hok d _ ed)
    obtain ⟨od, hod, hl⟩ := lookIn_ns hns
    obtain ⟨oc, odc, oda, osl⟩ := o
    dsimp only at hc1 hdc hfd
    subst hc1 hdc hfd
    have J : PySem.W.InstAt s.heap a _ C (some od) := ⟨ho, rfl, rfl, hod⟩
    exact PySem.W.kia_one (PySem.W.kitx_exc hcl T.hg T.hk T.hs T.ha T.hn T.ht T.hm) I.kIn J e (fun z => nomatch z) fin
  | bare ea =>
    obtain ⟨⟨oe, vs, ho, hz, hd, _⟩, _⟩ := I.hok a _ ea
    have J : PySem.W.InstAt s.heap a oe C none := by
      obtain ⟨oc, od, oda, osl⟩ := oe
      obtain ⟨z1, z2⟩ := hz
      dsimp only at z1 z2 hd
      subst z1 z2 hd
      exact ⟨ho, rfl, rfl, trivial⟩
    exact PySem.W.kia_one (PySem.W.kitx_exc hcl T.hg T.hk T.hs T.ha T.hn T.ht T.hm) I.kIn J e (fun z => nomatch z) fin
/-- C(e), the class's own __init__ keeping sp: the object stands -/
def tMkX (C : Addr) (sp : Sp) (ta : TA) : TE := fun σ H Q => ta σ H fun vs H1 => vs.length ≤ 1000 ∧ ∀ a, H1 a = none → sp (.ref a :: vs) (upd H1 a (exo a C none)) (fun v H2 => v = .non ∧ Q (.ref a) H2) E0
theorem pe_mkX {x : Str} {C fI : Addr} {k : Nat} {fd : FuncData} {ps : List Str} {sp : Sp} {e : Expr} {es : List Expr} {ta : TA} {p pos : Pos} (T : OexC X.K C) (iC : PySem.W.findIn X.K (.ref C) "__init__" = some (some (.ref fI))) (tI : PySem.W.typeIn X.K (.ref fI) = some (.type "function"))
    (F1 : FnOk X.prog X.w X.K X.mg X.base CX0 k fI fd ps sp) (hr : Room (k + 1) X.A) (hb : Binds X.K fd ps []) (hg : Gl X x) (hm : X.mg x = some (.ref C)) (ha : PA X (e :: es) ta) (hx : Passes CX0 X E0)
    (hdb : (x == ("__debug__" : Str)) = false := by decide) (he : starEach (e :: es) X.env = (false, eval e X.env) :: starEach es X.env := by rfl) (hpl : (backTo pos (starEach es X.env)).any (·.1) = false := by rfl) :
    PE X (.Call (.Name x p) (e :: es) [] pos) (tMkX C sp ta) := by
  refine ⟨fun pins s σ H Q I h => ?_⟩
  obtain ⟨nm, qn, N, bs, bm, sn, sub, ab, col, dd, k0, k1, k2, k3, k5, hC, hbm⟩ := T.cls
  refine wpAny_Call_Name_kw (ld_glob I hg hm ?_ hdb)
  refine PySem.W.callWith_K (h₀ := X.base) I.ok.mod.kin T.kC (thn (ha.run pos pins s σ H _ I h) fun us s1 ⟨vs, H1, I1, r1, hz, q1⟩ => ⟨I1.kIn, ?_⟩) he hpl
  show wpAny _ _ (call (.ref C) us) _ _ _
  obtain ⟨hp, gs, dr, tk, os⟩ := s1
  have fresh : H1 (hp.objs.size + 1) = none := I1.hok.fresh (Nat.le_succ _)
  have hq := q1 _ fresh
  have there : ((hp.push (PySem.W.kdv_tup us)).push (PySem.HandSPX.excO C hp.objs.size)).get? (hp.objs.size + 1) = some (PySem.HandSPX.excO C hp.objs.size) := by heap_get
  have J : Inv X pins σ (upd H1 (hp.objs.size + 1) (exo (hp.objs.size + 1) C none)) ⟨(hp.push (PySem.W.kdv_tup us)).push (PySem.HandSPX.excO C hp.objs.size), gs, dr, tk, os⟩ :=
    I1.laid (t' := tk) (fun b o z => Heap.get?_push_of_some _ (Heap.get?_push_of_some _ z)) (Nat.le_succ _) (exo_ok there)
  have r2 : Vals (V.ref (hp.objs.size + 1) :: vs) (Value.ref (hp.objs.size + 1) :: us) := .cons rfl r1
  have hl : (Value.ref (hp.objs.size + 1) :: us).length = ps.length := r2.length.symm.trans (F1.len _ _ _ _ hq)
  have hus : us.length ≤ sizeLine := by rw [← Paired.length r1, sizeLine_eq]; omega
  have bnd := hb ⟨(hp.push (PySem.W.kdv_tup us)).push (PySem.HandSPX.excO C hp.objs.size), gs, dr, tk, os⟩ (Value.ref (hp.objs.size + 1) :: us) J.kIn (by rw [List.append_nil]; exact hl)
  rw [List.append_nil] at bnd
  refine wpAny_call (PySem.HandSPX.call_own F.excBase_ValueError (fun Y => PySem.HandSPX.refsVE_contains Y bm hbm) (I1.kIn _ _ hC) (PySem.W.looks_findIn I1.kIn iC) (fun self => PySem.W.bind_fn I1.kIn self tI) hus
    (codeAny_mono (F1.run _ X.stack _ _ ⟨Value.ref (hp.objs.size + 1) :: us, []⟩ (Value.ref (hp.objs.size + 1) :: us) _ _ E0 (hr.make C us []) (J.env0.make C us []) bnd r2 hq) fun res s' back => ?_))
  rcases res with er | fl
  · exact hx pins σ _ _ er s' J back
  · rcases fl with _ | _ | _ | u
    · exact False.elim back
    · exact False.elim back
    · exact False.elim back
    · obtain ⟨v, H2, J2, rv, ev, q2⟩ := J.after back
      subst ev
      exact ⟨rv, ⟨V.ref (hp.objs.size + 1), H2, J2, rfl, q2⟩⟩
/-- C(), a class without own __init__ -/
theorem pe_exc0 {C : Addr} {bmB : List Value} {B newId initId : String} {x : Str} {p pos : Pos} (F : ExcBaseFacts B newId initId bmB) (hi : PySem.W.excIn X.K C bmB newId = true) (gC : X.mg x = some (.ref C)) (kC : PySem.W.keepIn X.K (.ref C) = true) (hg : Gl X x) (hdb : (x == ("__debug__" : Str)) = false := by decide) :
    PE X (.Call (.Name x p) [] [] pos) (fun _ H Q => ∀ a, H a = none → Q (.ref a) (upd H a (ExO (.ref C) a))) := by
  refine ⟨fun pins s σ H Q I h => ?_⟩
  refine wpAny_Call_Name_kw (ld_glob I hg gC ?_ hdb)
  refine PySem.W.callWith_K0 I.kIn kC ?_
  show wpAny _ _ (call (.ref C) []) _ _ _
  obtain ⟨bm, N, nm, qn, bs, hdct, sn, sub, ab, col, dd, k0, k1, k2, k3, k5, mN, hC, hN, hni, T⟩ := exc_obj I.kIn hi
  refine wpAny_call_exc_subT F T hC hN hni (fun h' a hm => ?_) (by show 0 ≤ sizeLine; exact Nat.zero_le _)
  have gone : H a = none := I.hok.gone hm.new
  obtain ⟨t, ht, _, _⟩ := hm.there
  exact ⟨.ref a, upd H a (ExO (.ref C) a), I.laidN hm.keeps hm.new gone (exO_ok ht ⟨rfl, rfl⟩ rfl rfl rfl (by simp)), rfl, h a gone⟩
/-- self.value = value, the whole of an __init__ -/
def sp_init (K : PySem.W.Frag) (C : Addr) (f : Str) : Sp := fun vs H Q _ => ∃ (a : Addr) (y : V), vs = [.ref a, y] ∧ H a = some (exo a C none) ∧ ∀ dx, H dx = none → dx ≠ a → Q .non (upd (upd H dx (exd dx [(f, y)])) a (exo a C (some dx)))
/-- C(e) read by what stands behind it -/
theorem mkX_read {K : PySem.W.Frag} {C : Addr} {f : Str} {ta : TA} {σ : L2.St} {H : Hp} {Q : VK} (h : ta σ H fun vs H1 => ∃ y, vs = [y] ∧ ∀ a H2, Same H1 H2 → H1 a = none → XAt H2 a C (some [(f, y)]) → Q (.ref a) H2)
    (mono : ∀ (R R' : List V → Hp → Prop), (∀ vs H1, R vs H1 → R' vs H1) → ta σ H R → ta σ H R') : tMkX C (sp_init K C f) ta σ H Q := by
  refine mono _ _ ?_ h
  rintro vs H1 ⟨y, rfl, q⟩
  refine ⟨by simp, fun a na => ⟨a, y, rfl, upd_same, fun dx ndx ne => ⟨rfl, q a _ ?_ na (.full upd_same ?_)⟩⟩⟩
  · intro b o eb
    have h1 : b ≠ a := ne_of_none eb na
    have h2 : (upd H1 a (exo a C none)) b = some o := by rw [upd_ne h1]; exact eb
    rw [upd_ne h1, upd_ne (ne_of_none h2 ndx), upd_ne h1]
    exact eb
  · rw [upd_ne ne]; exact upd_same
end
end MB

set_option maxHeartbeats 4000000
namespace MB
open PySem PySem.Spec PyProof.Rows L2
/-- the thing at sysModules, tracked as it stands: a new thing then stands elsewhere -/
def sysO (oY : Obj) : HO := .frz oY (.ext fun h => h.get? sysModules = some oY)
theorem law_callS {P : Program} {w : World} {K : PySem.W.Frag} {mg mb : Str → Option Value} {k : Nat} {fa a : Addr} {fd : FuncData} {x : Str} {sp : Sp} {s₁ : Shared} {vs : List Value} {ns : List Int} {oY : Obj}
    (hKs : K.lookup sysModules = none) (hsy : s₁.heap.get? sysModules = some oY) (hna : a ≠ sysModules) (KX : K.In s₁.heap) (hns : s₁.heap.Ns mainGlobals mg) (hb : s₁.heap.Ns builtinsNs mb)
    (hbb : ∀ x : Str, x ≠ "__name__" → mb x = bootBuiltins x) (hlim : s₁.heap.NoLimit) (hg : s₁.gens = #[])
    (ha : s₁.heap.get? a = some { cls := .type "list", data := .seq vs.toArray }) (hi : IntsAre vs ns) (hl : ns.length ≤ sizeLine) (hr : Room k callerA)
    (F : ∀ base : Heap, K.In base → base.Ns mainGlobals mg → FnG P w K mg base CX0 k fa fd [x] sp) (hbind : ∀ (s : Shared) (u : Value), BindsTo s fd ⟨[u], []⟩ [(x, u)])
    (hsp : ∀ (H : Hp) (o : HO), SqL K H a (ns.map V.int) → H sysModules = some o → sp [.ref a] H (fun v _ => v = .bl true) fun _ _ _ => False) :
    codeAny (model P w) callerA (.call (.ref fa) ⟨[.ref a], []⟩) (fun r s' => r = .ok (.ret (.bool true)) ∧ OldK s₁.heap s'.heap ∧ s'.os = s₁.os ∧ AllBare s'.gens) s₁ := by
  let oS : Obj := { cls := .type "list", data := .seq vs.toArray }
  let H : Hp := fun b => if b = a ∧ K.lookup a = none then some (.frz oS (.lst (ns.map V.int))) else if b = sysModules then some (sysO oY) else none
  have Ha : K.lookup a = none → H a = some (.frz oS (.lst (ns.map V.int))) := fun hk => if_pos ⟨rfl, hk⟩
  have Hy : H sysModules = some (sysO oY) := (if_neg fun z => hna z.1.symm).trans (if_pos rfl)
  have rv := vals_ints hi
  have Hsome : ∀ {b : Addr} {o : HO}, H b = some o → (b = a ∧ o = .frz oS (.lst (ns.map V.int))) ∨ (b = sysModules ∧ o = sysO oY) := fun {b o} e => by
    by_cases c : b = a ∧ K.lookup a = none
    · have e' := (if_pos c).symm.trans e
      exact .inl ⟨c.1, (Option.some.inj e').symm⟩
    · by_cases c2 : b = sysModules
      · rw [c2, Hy] at e; exact .inr ⟨c2, (Option.some.inj e).symm⟩
      · have e' : H b = none := (if_neg c).trans (if_neg c2)
        rw [e'] at e; cases e
  have hfree : ∀ {b : Addr}, (b = a → K.lookup a ≠ none) → b ≠ sysModules → H b = none := fun {b} c c2 => (if_neg fun z => c z.1 z.2).trans (if_neg c2)
  have hS : SqL K H a (ns.map V.int) := by
    cases hk : K.lookup a with
    | none => exact .inl (.inr ⟨oS, Ha hk⟩)
    | some o =>
      have e := (KX a o hk).symm.trans ha
      cases e
      exact .inr ⟨_, vs.toArray, _, hk, rfl, rfl, rfl, by rw [List.size_toArray, hi.length]; exact hl, by simpa using rv⟩
  have hok : HOk P w H s₁.heap := fun b o e => by
    rcases Hsome e with ⟨rfl, rfl⟩ | ⟨rfl, rfl⟩
    · exact ⟨ha, by rw [List.length_map]; exact hl, vs, _, rv, ha⟩
    · exact ⟨hsy, hsy, ⟨_, hsy⟩, fun h1 h2 z kk => kk _ z⟩
  have notA : ∀ {b : Addr} {m : Str → Option Value}, s₁.heap.Ns b m → b ≠ a := fun {b m} ⟨o, es, ep, e, d, r⟩ z => by
    rw [z, ha] at e; cases e; cases d
  have ns_hid : ∀ {b : Addr} {m : Str → Option Value}, b ≠ sysModules → s₁.heap.Ns b m → (hidT s₁.heap H).Ns b m := fun {b m} hb x => by
    have h1 := notA x
    obtain ⟨o, es, ep, e, d, r⟩ := x
    exact ⟨o, es, ep, hidT_get e (hfree (fun z => absurd z h1) hb), d, r⟩
  have hKb : K.In (hidT s₁.heap H) := fun b o e => hidT_get (KX b o e) (hfree (fun z => by rw [z] at e; rw [e]; exact fun y => nomatch y) (fun z => by rw [z, hKs] at e; cases e))
  have hM : Mod K mg (hidT s₁.heap H) := ⟨hKb, ns_hid (by decide) hns, ⟨mb, ns_hid (by decide) hb, hbb⟩, let ⟨mc, h1, h2⟩ := hlim; ⟨mc, ns_hid (by decide) h1, h2⟩⟩
  have e0 : Env0 P w K mg (hidT s₁.heap H) callerA [] s₁ H := ⟨rfl, hM, fun b o e => of_hidT e, Nat.le_of_eq (hidT_size _ _), trivial, (fun b hb => absurd (show b ∈ ([] : List Addr) from hb) (by simp)), hok, .of_eq hg⟩
  refine codeAny_mono ((F _ hKb (ns_hid (by decide) hns)).run callerA rfl hr [] s₁ H ⟨[.ref a], []⟩ [.ref a] [.ref a] _ _ e0 (hbind s₁ (.ref a)) (.cons rfl .nil) (hsp H _ hS Hy)) fun r s' h => ?_
  rcases r with e | fl
  · exact False.elim h
  rcases fl with _ | _ | _ | u
  · exact False.elim h
  · exact False.elim h
  · exact False.elim h
  obtain ⟨v, H', os, bare, un, hok', r', q⟩ := h
  have q' : v = .bl true := q
  subst q'
  obtain rfl : u = Value.bool true := r'
  refine ⟨rfl, OldK.of_keep fun b o e => ?_, os, bare⟩
  cases hb' : H b with
  | none => exact un.keep b o e hb' (fun z => absurd (show b ∈ ([] : List Addr) from z) (by simp)) (by simp)
  | some u =>
    rcases Hsome hb' with ⟨rfl, rfl⟩ | ⟨rfl, rfl⟩
    · have e2 := (hok' _ _ (un.frzs _ oS _ hb')).1
      rw [ha] at e
      cases e
      exact e2
    · have e2 := (hok' _ _ (un.frzs _ oY _ hb')).1
      rw [hsy] at e
      cases e
      exact e2
theorem walk_ofS {l : PySem.W.OpenLaw} {n k : Nat} {q : Program} {loose : List Str} {XP : (Str → Option Value) → Heap → Prop} {YP : World → Heap → Prop} {d : DefRec} {K : Params → PySem.W.Frag} {sp : PySem.W.Frag → Sp} {x : Str}
    (hn : l.most = some n) (hn2 : n ≤ sizeLine) (hdf : d.params.defaults = []) (hr : Room k callerA) (him : importsNone q = true) (hKs : ∀ p, (K p).lookup sysModules = none)
    (hY : ∀ (w : World) (h : Heap), YP w h → (K w.params).In h)
    (F : ∀ (w : World) (mg : Str → Option Value) (fa : Addr) (h : Heap), (K w.params).In h → h.Ns mainGlobals mg → mg d.name = some (.ref fa) →
      ∃ fd : FuncData, (∀ (s : Shared) (u : Value), BindsTo s fd ⟨[u], []⟩ [(x, u)]) ∧
        ∀ base : Heap, (K w.params).In base → base.Ns mainGlobals mg → FnG l.prog w (K w.params) mg base CX0 k fa fd [x] (sp (K w.params)))
    (hsp : ∀ (K : PySem.W.Frag) (H : Hp) (a : Addr) (ns : List Int) (o : HO), ns.length ≤ n → SqL K H a (ns.map V.int) → H sysModules = some o → sp K [.ref a] H (fun v _ => v = .bl true) fun _ _ _ => False) :
    PySem.W.WalkO q loose XP YP l.row.toRowW d [] (fun f vs => PySem.call f vs) :=
  Att.attach_call hn hdf fun w s₀ s₁ mg mb fa o pm cd doc a vs ns G Y ho hd hcd hmg hobj hints hlen hg =>
    have KX := hY w _ Y
    let ⟨fd, hb, hF⟩ := F w mg fa _ KX G.T.g hmg
    let ⟨mm, hmm, _⟩ := (G.T.seer him).mods
    let ⟨oY, es, ep, eY, dY, _⟩ := hmm
    law_callS (hKs w.params) eY (fun z => by rw [z, eY] at hobj; cases hobj; cases dY) KX G.T.g G.T.b G.T.builtins G.T.nolimit hg hobj hints (Nat.le_trans hlen hn2) hr hF hb fun H o hS hy => hsp _ H a ns o hlen hS hy
end MB

set_option maxHeartbeats 4000000
namespace MB
open PySem PySem.Spec PyProof.Rows L2
/-! ### facts of own exception classes, each as one truth value -/
def excB (K : PySem.W.Frag) (D : Addr) : Bool :=
  decide (PySem.W.findIn K (.ref D) "__getattribute__" = some (some (.builtin "BaseException.__getattribute__"))) && (decide (PySem.W.findIn K (.ref D) "__getattr__" = some none) && (decide (PySem.W.subIn K (.ref D) (.type "BaseException") = some true) && (PySem.W.hasDictIn K D &&
  (decide (PySem.W.findIn K (.ref D) "__class__" = some (some (.builtin "object.__class__"))) && (decide (PySem.W.specialIn K (.builtin "object.__class__") "__get__" = some (some (.builtin "getset_descriptor.__get__"))) && (decide (PySem.W.takesIn K (.builtin "object.__class__") = some true) && decide (PySem.W.mroIn K D (.type "object") = some true)))))))
theorem excB_ok {K : PySem.W.Frag} {D : Addr} (h : excB K D = true) : ExcC K D ∧ XfC K D := by
  unfold excB at h
  simp only [Bool.and_eq_true, decide_eq_true_eq] at h
  obtain ⟨h1, h2, h3, h4, h5, h6, h7, h8⟩ := h
  exact ⟨⟨h1, h2, h3, h4, h5, h6, h7, h8⟩, ⟨h1, h2, h3, h4⟩⟩
def oexB (K : PySem.W.Frag) (C fI : Addr) (f : Str) : Bool :=
  decide (PySem.W.findIn K (.ref C) "__setattr__" = some (some (.builtin "object.__setattr__"))) && (decide (PySem.W.subIn K (.ref C) (.type "BaseException") = some true) && (decide (PySem.W.typeIn K (.ref C) = some (.type "type")) && (PySem.W.keepIn K (.ref C) &&
  (decide (PySem.W.findIn K (.ref C) f = some none) && (decide (PySem.W.typeIn K (.ref fI) = some (.type "function")))))))
theorem oexB_ok {K : PySem.W.Frag} {C fI : Addr} {f : Str} (h : oexB K C fI f = true) : PySem.W.findIn K (.ref C) "__setattr__" = some (some (.builtin "object.__setattr__")) ∧ PySem.W.subIn K (.ref C) (.type "BaseException") = some true ∧ PySem.W.typeIn K (.ref C) = some (.type "type") ∧ PySem.W.keepIn K (.ref C) = true ∧ PySem.W.findIn K (.ref C) f = some none ∧ PySem.W.typeIn K (.ref fI) = some (.type "function") := by
  unfold oexB at h
  simpa only [Bool.and_eq_true, decide_eq_true_eq] using h
/-- each is an instance of itself alone among them, of the base m, and of ValueError -/
def kitB (K : PySem.W.Frag) (cs : List Addr) (m : Addr) : Bool :=
  cs.all fun c => (cs.all fun d => decide (PySem.W.kitOne K (.ref c) (.ref d) = some (c == d))) && (decide (PySem.W.kitOne K (.ref c) (.ref m) = some true) && decide (PySem.W.kitOne K (.ref c) (.type "ValueError") = some true))
theorem kitB_ok {K : PySem.W.Frag} {cs : List Addr} {m : Addr} (h : kitB K cs m = true) {c : Addr} (hc : c ∈ cs) : (∀ d, d ∈ cs → PySem.W.kitOne K (.ref c) (.ref d) = some (c == d)) ∧ PySem.W.kitOne K (.ref c) (.ref m) = some true ∧ PySem.W.kitOne K (.ref c) (.type "ValueError") = some true := by
  unfold kitB at h
  have h1 := List.all_eq_true.mp h c hc
  simp only [Bool.and_eq_true, decide_eq_true_eq, List.all_eq_true] at h1
  exact h1
def nodupB (cs : List Addr) : Bool := decide cs.Nodup

/-- the same from the lines of ancestors alone -/
def kitT (l : List (Addr × List Value)) (m : Addr) : Bool :=
  l.all fun c => !c.2.isEmpty && ((l.all fun d => decide ((c.1 = d.1 ∨ c.2.contains (.ref d.1) = false))) && (c.2.contains (.ref m) && c.2.contains (.type "ValueError")))
theorem kitOne_self {K : PySem.W.Frag} {v : Value} : PySem.W.kitOne K v v = some true := by
  unfold PySem.W.kitOne
  rw [if_pos (beq_self_eq_true v)]
theorem kitOne_ref {K : PySem.W.Frag} {c d : Addr} {cd dd : ClassData} (hn : c ≠ d) (h : PySem.W.clsIn K c = some cd) (he : cd.mro.isEmpty = false) (g : PySem.W.clsIn K d = some dd) (gt : PySem.W.typeIn K (.ref d) = some (.type "type")) :
    PySem.W.kitOne K (.ref c) (.ref d) = some (cd.mro.contains (.ref d)) := by
  unfold PySem.W.kitOne
  have e : ¬ ((Value.ref c == Value.ref d) = true) := fun z => by
    have z2 : Value.ref c = Value.ref d := beq_iff_eq.mp z
    cases z2; exact hn rfl
  rw [if_neg e]
  unfold PySem.W.kitCls
  dsimp only
  rw [g, gt, if_pos (by simp)]
  show PySem.W.mroIn K c (.ref d) = _
  unfold PySem.W.mroIn
  rw [h]
  show (if cd.mro.isEmpty = true then none else some (cd.mro.contains (.ref d))) = _
  rw [he]; rfl
theorem kitOne_ve {K : PySem.W.Frag} {c : Addr} {cd : ClassData} (h : PySem.W.clsIn K c = some cd) (he : cd.mro.isEmpty = false) :
    PySem.W.kitOne K (.ref c) (.type "ValueError") = some (cd.mro.contains (.type "ValueError")) := by
  unfold PySem.W.kitOne
  have e : ¬ ((Value.ref c == Value.type "ValueError") = true) := fun z => by
    have z2 : Value.ref c = Value.type "ValueError" := beq_iff_eq.mp z
    cases z2
  rw [if_neg e]
  unfold PySem.W.kitCls
  dsimp only
  rw [if_pos (by decide +kernel)]
  show PySem.W.mroIn K c (.type "ValueError") = _
  unfold PySem.W.mroIn
  rw [h]
  show (if cd.mro.isEmpty = true then none else some (cd.mro.contains (.type "ValueError"))) = _
  rw [he]; rfl
theorem kitB_mk {K : PySem.W.Frag} {m : Addr} {md : ClassData} (l : List (Addr × ClassData)) (h : ∀ p, p ∈ l → PySem.W.clsIn K p.1 = some p.2 ∧ PySem.W.typeIn K (.ref p.1) = some (.type "type"))
    (hm : PySem.W.clsIn K m = some md) (tm : PySem.W.typeIn K (.ref m) = some (.type "type")) (t : kitT (l.map fun p => (p.1, p.2.mro)) m = true) : kitB K (l.map (·.1)) m = true := by
  unfold kitB
  unfold kitT at t
  rw [List.all_eq_true] at t ⊢
  intro c hc
  obtain ⟨p, hp, rfl⟩ := List.mem_map.mp hc
  have tp := t _ (List.mem_map.mpr ⟨p, hp, rfl⟩)
  simp only [Bool.and_eq_true, decide_eq_true_eq, List.all_eq_true] at tp
  obtain ⟨t1, t2, t3, t4⟩ := tp
  have t1' : p.2.mro.isEmpty = false := by simpa using t1
  simp only [Bool.and_eq_true, decide_eq_true_eq, List.all_eq_true]
  refine ⟨fun d hd => ?_, ?_, ?_⟩
  · obtain ⟨q, hq, rfl⟩ := List.mem_map.mp hd
    by_cases z : p.1 = q.1
    · rw [z, kitOne_self]; simp
    · have := t2 _ (List.mem_map.mpr ⟨q, hq, rfl⟩)
      rcases this with e | e
      · exact absurd e z
      · rw [kitOne_ref z (h p hp).1 t1' (h q hq).1 (h q hq).2, e]
        have : (p.1 == q.1) = false := by simpa using z
        rw [this]
  · by_cases z : p.1 = m
    · rw [z, kitOne_self]
    · rw [kitOne_ref z (h p hp).1 t1' hm tm, t3]
  · rw [kitOne_ve (h p hp).1 t1', t4]
end MB

set_option maxHeartbeats 4000000
namespace MB
open PySem PySem.Spec PyProof.Rows L2
/-! ### a caught exception is kept: its object comes among what is tracked -/
theorem inv_adopt {X : Cx} {pins : List (Addr × Obj)} {σ : L2.St} {H : Hp} {s : Shared} {a : Addr} {o : HO} (I : Inv X pins σ H s)
    (na : H a = none) (n0 : a ∉ X.ex → X.s_0.heap.get? a = none) (nL : a ≠ X.env.locals) (nC : ∀ x c, X.env.cells.lookup x = some c → c ≠ a) (nP : ∀ p ∈ X.pn ++ pins, p.1 ≠ a)
    (new : ObjOk X.prog X.w (upd H a o) s.heap a o) : Inv X pins σ (upd H a o) s := by
  have ne : ∀ b u, H b = some u → b ≠ a := fun b u q z => by rw [z, na] at q; cases q
  have up : ∀ b u, H b = some u → upd H a o b = some u := fun b u q => by rw [upd_ne (ne b u q)]; exact q
  have no : ∀ b, b ≠ a → H b = none → upd H a o b = none := fun b z q => by rw [upd_ne z]; exact q
  have B := I.base
  refine ⟨I.ok, I.os, I.bare, ⟨B.keep, B.slot, fun b ob q n x => ?_, B.there, fun b xs q => up _ _ (B.tups b xs q), fun b ob u q => up _ _ (B.frzs b ob u q), fun b ps q => ?_⟩, I.loc, I.cell, no _ (Ne.symm nL) I.free, fun x c q => no _ (nC x c q) (I.freeC x c q), fun p hp => ?_, fun b u q => ?_, I.len⟩
  · refine no _ (fun z => ?_) (B.free b ob q n x)
    rw [z] at q x
    rw [n0 x] at q; cases q
  · obtain ⟨more, e⟩ := B.tbls b ps q
    exact ⟨more, up _ _ e⟩
  · obtain ⟨p1, p2, p3⟩ := I.pin p hp
    exact ⟨p1, no _ (nP p hp) p2, p3⟩
  · by_cases z : b = a
    · rw [z, upd_same] at q
      cases q
      rw [z]
      exact new
    · rw [upd_ne z] at q
      exact (I.hok b u q).stay (fun c v _ e => e) (fun c e => up c _ e) fun c _ e => up c _ e

/-- what the catch wishes: the class is one that is caught; behind the suite the error stays, tracked -/
def wKept (K : PySem.W.Frag) (c : Value) (i : Nat) (ts : Addr → Value → Option Addr → TS) (D : Ends) : WX := fun cls d σ H =>
  PySem.W.exmOne K cls c = some true ∧ ∀ a, H a = none →
    ts a cls d { nx := fun σ' H' => D.nx (σ'.set i none) (upd H' a (KeO a cls d)), rt := fun _ _ => False, bk := fun _ _ => False, ct := fun _ _ => False } (σ.set i (some (.ref a))) H
section
variable {X : Cx} {x n : Str} {c : Value} {i : Nat} {body more : List Stmt} {st : Stmt} {np pos pos' : Pos} {tb : WX → TS} {ts : Addr → Value → Option Addr → TS}
theorem ps_try_kept (hst : X.stack = X.env :: X.outer) (hfm : X.env.frame = some X.env.locals)
    (hN : X.N.Nodup) (hi : X.N[i]? = some n)
    (hln : X.env.kindOf n = some .local) (hc : Names X x c)
    (hb : ∀ (W : WX) (pn : List (Addr × Obj)) (xe : Value → Shared → Prop), Takes (X.tr pn xe) W →
      PassesOwn (model X.prog X.w) X.A X.env xe → PSs (X.tr pn xe) body (tb W))
    (hsu : ∀ (a : Addr) (oe : Obj) (cls : Value) (d : Option Addr) (pn : List (Addr × Obj)), Zc cls d oe →
      (∃ vs, oe.data = .fields vs) → PSs (X.suite a ((a, oe) :: pn)) (st :: more) (ts a cls d)) :
    PS X (.Try body [.ExceptHandler (some (.Name x np)) (some n) (st :: more) pos'] [] [] pos)
      (fun D σ H => tb (wKept X.K c i ts D) D σ H) := by
  refine ⟨fun pins s σ H D I h => ?_⟩
  have okX := I.ok
  have frm : X.A.frames = some (X.env :: X.outer) := by rw [okX.frames, hst]
  refine wpAny_Try_except (wpAny_mono ((hb (wKept X.K c i ts D) (X.pn ++ pins) _ (fun u s1 xx => ?_) PassesOwn.looking).run [] s σ H D (I.toTry _) h) (fun f s1 q => ?_) (fun e s1 q => q))
  · obtain ⟨a, B, sI, pins', σ1, H1, cls, d, rfl, Jt, nb, up, sky, na, os, ag, hyes, hts⟩ := xx
    have J : Inv X pins σ1 H1 sI := Jt.ofTry okX
    rw [show (X.tr (X.pn ++ pins) _).stack = X.env :: X.outer from hst] at sky
    show wpAny (model X.prog X.w) X.A (noteFrame (.ref a) X.env) _ _ _
    refine Sky.land Zc.steady frm hfm sky fun h2 fl up2 => ?_
    have J2 : Inv X pins σ1 H1 { s1 with heap := h2 } := J.landed nb fl.1 (up.trans up2) os ag
    have Bn : B.get? a = none := fl.2.1
    obtain ⟨o2, vs2, g2, z2, d2⟩ := fl.there
    have offF : a ∉ frs (X.env :: X.outer) := fun hm => by
      obtain ⟨_, o', e', hnf⟩ := fl.2.2.1.mem hm
      rw [g2] at e'; cases e'
      exact hnf _ d2
    have offL : a ≠ X.env.locals := fun z => offF (List.mem_filterMap.mpr ⟨X.env, List.mem_cons_self, by rw [hfm, z]⟩)
    have offO : a ∉ X.fs := fun hm => by
      obtain ⟨e, he, q⟩ := List.mem_filterMap.mp hm
      exact offF (List.mem_filterMap.mpr ⟨e, List.mem_cons_of_mem _ he, q⟩)
    have offI : ∀ o, sI.heap.get? a = some o → False := fun o e => by
      have := nb a o e (by show a ∉ frs X.stack; rw [hst]; exact offF)
      rw [Bn] at this; cases this
    have n0 : a ∉ X.ex → X.s_0.heap.get? a = none := fun hx => by
      cases e : X.s_0.heap.get? a with
      | none => rfl
      | some o =>
        obtain ⟨o', e'⟩ := J.base.there a o e hx
        exact (offI _ e').elim
    have nC : ∀ x c, X.env.cells.lookup x = some c → c ≠ a := fun x c e z => by
      obtain ⟨v, q⟩ := J.cell x c e
      rw [z] at q
      obtain ⟨o, q1, _⟩ := q
      exact offI _ q1
    have nP : ∀ p ∈ X.pn ++ pins, p.1 ≠ a := fun p hp z => by
      have q := (J.pin p hp).1
      rw [z] at q
      exact offI _ q
    have S2 := J2.suite g2 d2 na offL offO
    refine wpAny_handleBy_cons (codeAny_handlers_test ?_) (by intro q; cases q)
    have ty : PySem.W.Looks (model X.prog X.w) h2 (typeOf (.ref a)) cls := fun _ _ _ _ k q =>
      wpAny_typeOf_ref (k _ _ g2) (by rw [z2.1]; exact q)
    have look := PySem.W.exm_one (M := model X.prog X.w) J2.kIn ty hyes
    have nam : ∀ {Q E : Value → Shared → Prop}, Q c { s1 with heap := h2 } →
        wpAny (model X.prog X.w) (X.A.mark (some (.ref a))) (eval (.Name x np) X.env) Q E { s1 with heap := h2 } := fun {Q E} q => by
      rcases hc with ⟨hg, hdb, hm | ⟨hm, hv, hnn⟩⟩
      · exact ld_glob (X := X.suite a ((a, o2) :: (X.pn ++ pins))) S2 hg hm q hdb
      · exact ld_blt (X := X.suite a ((a, o2) :: (X.pn ++ pins))) S2 hg hm hv q hnn hdb
    refine nam (look.here (codeAny_handlers_suite_as (HandSPX.lands_againZ fl fun h3 fl3 up3 => ?_)))
    have J3 : Inv X pins σ1 H1 { s1 with heap := h3 } := J.landed nb fl3.1 ((up.trans up2).trans up3) os ag
    obtain ⟨o3, vs3, g3, z3, d3⟩ := fl3.there
    have S3 := J3.suite g3 d3 na offL offO
    refine store_ok (X := X.suite a ((a, o3) :: (X.pn ++ pins))) (v := .ref a) S3 hN hi (.inl hln) rfl (fun s4 S4 => ?_) (.inr hln)
    refine wpAny_mono ((hsu a o3 cls d (X.pn ++ pins) z3 ⟨_, d3⟩).run [] s4 _ H1 _ S4 (hts a na)) (fun f s5 q => ?_) (fun _ _ z => z.elim)
    cases f with
    | next =>
      obtain ⟨σ5, H5, S5, q5⟩ := q
      obtain ⟨g5, n5, _⟩ := S5.pin (a, o3) (by simp [Cx.suite])
      exact gone_ok (inv_adopt (S5.unsuite okX) n5 n0 offL nC nP (keO_ok g5 z3.1 z3.2 d3)) hN hi hln fun s6 J6 => ⟨_, _, J6, q5⟩
    | brk => obtain ⟨_, _, _, z⟩ := q; exact z.elim
    | cont => obtain ⟨_, _, _, z⟩ := q; exact z.elim
    | ret u => obtain ⟨_, _, _, _, _, z⟩ := q; exact z.elim
  · cases f with
    | next => obtain ⟨_, _, J, z⟩ := q; exact wpAny_execs_nil ⟨_, _, J.ofTry okX, z⟩
    | brk => obtain ⟨_, _, J, z⟩ := q; exact ⟨_, _, J.ofTry okX, z⟩
    | cont => obtain ⟨_, _, J, z⟩ := q; exact ⟨_, _, J.ofTry okX, z⟩
    | ret u => obtain ⟨_, _, _, J, r, z⟩ := q; exact ⟨_, _, _, J.ofTry okX, r, z⟩
end
end MB

set_option maxHeartbeats 4000000
namespace MB
open PySem PySem.Spec PyProof.Rows L2
/-- a law's call: no repr is under way, sysModules is tracked, and so are the tables ts of code objects (cs: code object and table) -/
theorem law_callT {P : Program} {w : World} {K : PySem.W.Frag} {mg mb : Str → Option Value} {k : Nat} {fa a : Addr} {fd : FuncData} {x : Str} {sp : Sp} {s₁ : Shared} {vs : List Value} {ns : List Int} {oY : Obj} {cs : List (Addr × Addr)}
    (hKs : K.lookup sysModules = none) (hsy : s₁.heap.get? sysModules = some oY) (hyT : ∀ p ∈ cs, p.2 ≠ sysModules) (hna : a ≠ sysModules) (KX : K.In s₁.heap) (hns : s₁.heap.Ns mainGlobals mg) (hb : s₁.heap.Ns builtinsNs mb)
    (hbb : ∀ x : Str, x ≠ "__name__" → mb x = bootBuiltins x) (hlim : s₁.heap.NoLimit) (hg : s₁.gens = #[])
    (hT : ∀ p ∈ cs, s₁.heap.get? p.2 = some { cls := .none, data := .fields #[] }) (nT : ∀ p ∈ cs, K.lookup p.2 = none) (hC : ∀ p ∈ cs, PySem.W.CodeHd s₁.heap p.1 p.2) (hCy : ∀ p ∈ cs, p.1 ≠ sysModules)
    (hbm : ∃ (bm : Addr) (ob : Obj), mg "__builtins__" = some (.ref bm) ∧ bm ≠ builtinsNs ∧ s₁.heap.get? bm = some ob ∧ ob.cls = .type "module" ∧ ob.dict = some builtinsNs ∧ ob.data = .plain)
    (hyd : ∃ es ep, oY.data = .dict es ep)
    (ha : s₁.heap.get? a = some { cls := .type "list", data := .seq vs.toArray }) (hi : IntsAre vs ns) (hl : ns.length ≤ sizeLine) (hr : Room k callerA)
    (F : ∀ base : Heap, K.In base → base.Ns mainGlobals mg → (∀ p ∈ cs, LamX.TabB base mg p.1 p.2) → FnG P w K mg base CX0 k fa fd [x] sp) (hbind : ∀ (s : Shared) (u : Value), BindsTo s fd ⟨[u], []⟩ [(x, u)])
    (hsp : ∀ (H : Hp) (o : HO), SqL K H a (ns.map V.int) → H sysModules = some o → (∀ ps, o ≠ .tbl ps) → (∀ p ∈ cs, H p.2 = some (.tbl #[])) → sp [.ref a] H (fun v _ => v = .bl true) fun _ _ _ => False) :
    codeAny (model P w) callerA (.call (.ref fa) ⟨[.ref a], []⟩) (fun r s' => r = .ok (.ret (.bool true)) ∧ OldK s₁.heap s'.heap ∧ s'.os = s₁.os ∧ AllBare s'.gens) s₁ := by
  let oS : Obj := { cls := .type "list", data := .seq vs.toArray }
  let H : Hp := fun b => if b = a ∧ K.lookup a = none then some (.frz oS (.lst (ns.map V.int))) else if b = sysModules then some (sysO oY) else if b ∈ cs.map (·.2) then some (.tbl #[]) else none
  have isT : ∀ b : Addr, b ∈ cs.map (·.2) → s₁.heap.get? b = some { cls := .none, data := .fields #[] } ∧ K.lookup b = none ∧ b ≠ sysModules := fun b hb => by
    obtain ⟨p, hp, rfl⟩ := List.mem_map.mp hb
    exact ⟨hT p hp, nT p hp, hyT p hp⟩
  have aT : a ∉ cs.map (·.2) := fun z => by
    have q := (isT a z).1
    rw [ha] at q
    cases q
  have Ha : K.lookup a = none → H a = some (.frz oS (.lst (ns.map V.int))) := fun hk => if_pos ⟨rfl, hk⟩
  have Hy : H sysModules = some (sysO oY) := (if_neg fun z => hna z.1.symm).trans (if_pos rfl)
  have Ht : ∀ b, b ∈ cs.map (·.2) → H b = some (.tbl #[]) := fun b hb => (if_neg fun z => aT (by rw [← z.1]; exact hb)).trans ((if_neg (isT b hb).2.2).trans (if_pos hb))
  have rv := vals_ints hi
  have Hsome : ∀ {b : Addr} {o : HO}, H b = some o → (b = a ∧ o = .frz oS (.lst (ns.map V.int))) ∨ (b = sysModules ∧ o = sysO oY) ∨ (b ∈ cs.map (·.2) ∧ o = .tbl #[]) := fun {b o} e => by
    by_cases c : b = a ∧ K.lookup a = none
    · have e' := (if_pos c).symm.trans e
      exact .inl ⟨c.1, (Option.some.inj e').symm⟩
    · by_cases c2 : b = sysModules
      · rw [c2, Hy] at e; exact .inr (.inl ⟨c2, (Option.some.inj e).symm⟩)
      · by_cases c3 : b ∈ cs.map (·.2)
        · rw [Ht b c3] at e; exact .inr (.inr ⟨c3, (Option.some.inj e).symm⟩)
        · have e' : H b = none := (if_neg c).trans ((if_neg c2).trans (if_neg c3))
          rw [e'] at e; cases e
  have hfree : ∀ {b : Addr}, (b = a → K.lookup a ≠ none) → b ≠ sysModules → b ∉ cs.map (·.2) → H b = none := fun {b} c c2 c3 => (if_neg fun z => c z.1 z.2).trans ((if_neg c2).trans (if_neg c3))
  have hS : SqL K H a (ns.map V.int) := by
    cases hk : K.lookup a with
    | none => exact .inl (.inr ⟨oS, Ha hk⟩)
    | some o =>
      have e := (KX a o hk).symm.trans ha
      cases e
      exact .inr ⟨_, vs.toArray, _, hk, rfl, rfl, rfl, by rw [List.size_toArray, hi.length]; exact hl, by simpa using rv⟩
  have hok : HOk P w H s₁.heap := fun b o e => by
    rcases Hsome e with ⟨rfl, rfl⟩ | ⟨rfl, rfl⟩ | ⟨h1, rfl⟩
    · exact ⟨ha, by rw [List.length_map]; exact hl, vs, _, rv, ha⟩
    · exact ⟨hsy, hsy, ⟨_, hsy⟩, fun h1 h2 z kk => kk _ z⟩
    · exact (isT b h1).1
  have noD : ∀ {b : Addr} {o : Obj}, s₁.heap.get? b = some o → b ≠ sysModules → (∀ us n, o.data ≠ .seq us n) → o.data ≠ .fields #[] → H b = none := fun {b o} e c h1 h2 => hfree (fun z => by
      rw [z, ha] at e
      cases e
      exact (h1 _ _ rfl).elim) c fun z => by
      rw [(isT b z).1] at e
      cases e
      exact h2 rfl
  have ns_hid : ∀ {b : Addr} {m : Str → Option Value}, b ≠ sysModules → s₁.heap.Ns b m → (hidT s₁.heap H).Ns b m := fun {b m} hb x => by
    obtain ⟨o, es, ep, e, d, r⟩ := x
    exact ⟨o, es, ep, hidT_get e (noD e hb (fun us n z => by rw [d] at z; cases z) fun z => by rw [d] at z; cases z), d, r⟩
  have hKb : K.In (hidT s₁.heap H) := fun b o e => hidT_get (KX b o e) (hfree (fun z => by rw [z] at e; rw [e]; exact fun y => nomatch y) (fun z => by rw [z, hKs] at e; cases e) fun z => by rw [(isT b z).2.1] at e; cases e)
  have hM : Mod K mg (hidT s₁.heap H) := ⟨hKb, ns_hid (by decide) hns, ⟨mb, ns_hid (by decide) hb, hbb⟩, let ⟨mc, h1, h2⟩ := hlim; ⟨mc, ns_hid (by decide) h1, h2⟩⟩
  have TB : ∀ p ∈ cs, LamX.TabB (hidT s₁.heap H) mg p.1 p.2 := fun p hp => by
    have hTp := hT p hp
    refine ⟨?_, ?_, fun z => ?_⟩
    · obtain ⟨o, us, file, tf, flags, tg, inF, text, tt, e1, r1, r2, r3, r4⟩ := hC p hp
      refine ⟨o, us, file, tf, flags, tg, inF, text, tt, hidT_get e1 (noD e1 (hCy p hp) (fun us' n z => ?_) fun z => ?_), r1, r2, r3, r4⟩
      · rw [r2] at z; cases z
      · rw [r2] at z; cases z; simp at r3
    · obtain ⟨bm, ob, b1, b2, b3, b4, b5, b6⟩ := hbm
      have nY : bm ≠ sysModules := fun q => by
        obtain ⟨es, ep, hd⟩ := hyd
        rw [q, hsy] at b3
        cases b3
        rw [hd] at b6; cases b6
      have nG : bm ≠ mainGlobals := fun q => by
        obtain ⟨o, es, ep, e, hd, _⟩ := hns
        rw [q, e] at b3
        cases b3
        rw [hd] at b6; cases b6
      have nP : bm ≠ p.2 := fun q => by rw [q, hTp] at b3; cases b3; cases b6
      exact ⟨bm, ob, b1, b2, nG, nP, hidT_get b3 (noD b3 nY (fun us' n z => by rw [b6] at z; cases z) fun z => by rw [b6] at z; cases z), b4, b5, b6⟩
    · obtain ⟨o, es, ep, e, hd, _⟩ := hns
      rw [z, hTp] at e
      cases e
      cases hd
  have e0 : Env0 P w K mg (hidT s₁.heap H) callerA [] s₁ H := ⟨rfl, hM, fun b o e => of_hidT e, Nat.le_of_eq (hidT_size _ _), trivial, (fun b hb => absurd (show b ∈ ([] : List Addr) from hb) (by simp)), hok, .of_eq hg⟩
  refine codeAny_mono ((F _ hKb (ns_hid (by decide) hns) TB).run callerA rfl hr [] s₁ H ⟨[.ref a], []⟩ [.ref a] [.ref a] _ _ e0 (hbind s₁ (.ref a)) (.cons rfl .nil) (hsp H _ hS Hy (fun ps z => by unfold sysO at z; cases z) fun p hp => Ht _ (List.mem_map.mpr ⟨p, hp, rfl⟩))) fun r s' h => ?_
  rcases r with e | fl
  · exact False.elim h
  rcases fl with _ | _ | _ | u
  · exact False.elim h
  · exact False.elim h
  · exact False.elim h
  obtain ⟨v, H', os, bare, un, hok', r', q⟩ := h
  have q' : v = .bl true := q
  subst q'
  obtain rfl : u = Value.bool true := r'
  have key : ∀ b o, b ∉ cs.map (·.2) → s₁.heap.get? b = some o → s'.heap.get? b = some o := fun b o nb e => by
    cases hb' : H b with
    | none => exact un.keep b o e hb' (fun z => absurd (show b ∈ ([] : List Addr) from z) (by simp)) (by simp)
    | some u =>
      rcases Hsome hb' with ⟨rfl, rfl⟩ | ⟨rfl, rfl⟩ | ⟨h1, _⟩
      · have e2 := (hok' _ _ (un.frzs _ oS _ hb')).1
        rw [ha] at e
        cases e
        exact e2
      · have e2 := (hok' _ _ (un.frzs _ oY _ hb')).1
        rw [hsy] at e
        cases e
        exact e2
      · exact absurd h1 nb
  have grown : ∀ p ∈ cs, ∃ more : Array Value, s'.heap.get? p.2 = some { cls := .none, data := .fields more } := fun p hp => by
    obtain ⟨more, z⟩ := un.tbls p.2 #[] (Ht _ (List.mem_map.mpr ⟨p, hp, rfl⟩))
    exact ⟨_, hok' p.2 _ z⟩
  refine ⟨rfl, ⟨fun b o e => ?_, fun b o e => ?_⟩, os, bare⟩
  · by_cases hb : b ∈ cs.map (·.2)
    · obtain ⟨p, hp, rfl⟩ := List.mem_map.mp hb
      obtain ⟨more, hm⟩ := grown p hp
      rw [hT p hp] at e
      cases e
      exact .inr (.inl ⟨((hC p hp).tab (hT p hp)).isCodeTable, rfl, #[], more, rfl, by rw [Array.empty_append]; exact hm⟩)
    · exact .inl (key b o hb e)
  · by_cases hb : b ∈ cs.map (·.2)
    · obtain ⟨p, hp, rfl⟩ := List.mem_map.mp hb
      obtain ⟨more, hm⟩ := grown p hp
      exact ⟨_, hm⟩
    · exact ⟨o, key b o hb e⟩
theorem walk_ofT {l : PySem.W.OpenLaw} {n k : Nat} {q : Program} {loose : List Str} {XP : (Str → Option Value) → Heap → Prop} {YP : World → Heap → Prop} {d : DefRec} {K : Params → PySem.W.Frag} {sp : PySem.W.Frag → List (Addr × Addr) → Sp} {x : Str}
    (hn : l.most = some n) (hn2 : n ≤ sizeLine) (hdf : d.params.defaults = []) (hr : Room k callerA) (him : importsNone q = true) (hKs : ∀ p, (K p).lookup sysModules = none)
    (hY : ∀ (w : World) (h : Heap), YP w h → (K w.params).In h)
    (F : ∀ (w : World) (mg : Str → Option Value) (fa : Addr) (h : Heap), YP w h → (K w.params).In h → h.Ns mainGlobals mg → mg d.name = some (.ref fa) →
      ∃ (fd : FuncData) (cs : List (Addr × Addr)), (∀ p ∈ cs, h.get? p.2 = some { cls := .none, data := .fields #[] }) ∧ (∀ p ∈ cs, (K w.params).lookup p.2 = none) ∧ (∀ p ∈ cs, PySem.W.CodeHd h p.1 p.2) ∧ (∀ p ∈ cs, p.1 ≠ sysModules ∧ p.2 ≠ sysModules) ∧ (∀ (s : Shared) (u : Value), BindsTo s fd ⟨[u], []⟩ [(x, u)]) ∧
        (∀ base : Heap, (K w.params).In base → base.Ns mainGlobals mg → (∀ p ∈ cs, LamX.TabB base mg p.1 p.2) → FnG l.prog w (K w.params) mg base CX0 k fa fd [x] (sp (K w.params) cs)) ∧
        ∀ (H : Hp) (a : Addr) (ns : List Int) (o : HO), ns.length ≤ n → SqL (K w.params) H a (ns.map V.int) → H sysModules = some o → (∀ ps, o ≠ .tbl ps) → (∀ p ∈ cs, H p.2 = some (.tbl #[])) → sp (K w.params) cs [.ref a] H (fun v _ => v = .bl true) fun _ _ _ => False) :
    PySem.W.WalkO q loose XP YP l.row.toRowW d [] (fun f vs => PySem.call f vs) :=
  Att.attach_call hn hdf fun w s₀ s₁ mg mb fa o pm cd doc a vs ns G Y ho hd hcd hmg hobj hints hlen hg =>
    have KX := hY w _ Y
    let ⟨fd, cs, hT, nT, hC, hy, hb, hF, hsp⟩ := F w mg fa _ Y KX G.T.g hmg
    let ⟨mm, hmm, _⟩ := (G.T.seer him).mods
    let ⟨oY, es, ep, eY, dY, _⟩ := hmm
    law_callT (hKs w.params) eY (fun p hp => (hy p hp).2) (fun z => by rw [z, eY] at hobj; cases hobj; cases dY) KX G.T.g G.T.b G.T.builtins G.T.nolimit hg hT nT hC (fun p hp => (hy p hp).1) G.T.bmain ⟨es, ep, dY⟩ hobj hints (Nat.le_trans hlen hn2) hr hF hb fun H o hS hyy hoo hTT => hsp H a ns o hlen hS hyy hoo hTT
end MB

set_option maxHeartbeats 4000000
namespace MB
open PySem PySem.Spec PyProof.Rows L2
/-! ### what a def or a lambda lets out, its caller takes -/
theorem takesX {P : Program} {w : World} {K : PySem.W.Frag} {mg : Str → Option Value} {base : Heap} {N : List Str} {qual : Str} {scope : Scope} {f : Addr} {cd : Value} {A : Around} {outer : List Env} {s : Shared} {H : Hp} {E : XK} :
    Takes (cxOf (L2.CX P w) P w K mg base N qual scope f cd A outer s H E) (fun cls d _ H => E cls d H) := takes_of rfl rfl rfl rfl
theorem passX {P : Program} {w : World} {K : PySem.W.Frag} {mg : Str → Option Value} {base : Heap} {N : List Str} {qual : Str} {scope : Scope} {f : Addr} {cd : Value} {A : Around} {outer : List Env} {s : Shared} {H : Hp} {E : XK} :
    Passes (L2.CX P w) (cxOf (L2.CX P w) P w K mg base N qual scope f cd A outer s H E) E := passes_call takesX fun _ _ _ _ h => h
theorem takesL {X : Cx} {A : Around} {outer : List Env} {s : Shared} {H : Hp} {E : XK} {scope : Scope} {f c' : Addr} : Takes (LamX.lamCx X A outer s H E scope f c') (fun cls d _ H => E cls d H) := takes_of rfl rfl rfl rfl
theorem passL' {X : Cx} {A : Around} {outer : List Env} {s : Shared} {H : Hp} {E : XK} {scope : Scope} {f c' : Addr} : Passes (L2.CX X.prog X.w) (LamX.lamCx X A outer s H E scope f c') E := passes_call takesL fun _ _ _ _ h => h
/-- a def that may raise, called where it does not -/
theorem passN {P : Program} {w : World} {X : Cx} : Passes (L2.CX P w) X E0 := fun _ _ _ _ _ _ _ ⟨_, _, _, _, _, _, _, _, _, _, _, _, h⟩ => h.elim
/-! ### raise C(value) -/
theorem raise_read {K : PySem.W.Frag} {C : Addr} {ta : TA} {σ : L2.St} {H : Hp} {W : XK} (h : ta σ H fun vs H1 => ∃ y, vs = [y] ∧ ∀ d H2, Same H1 H2 → H1 d = none → H2 d = some (.xd [("value", y)]) → W (.ref C) (some d) H2)
    (mono : ∀ (R R' : List V → Hp → Prop), (∀ vs H1, R vs H1 → R' vs H1) → ta σ H R → ta σ H R') : tMkO C (sp_init K C "value") [] ta σ H W := by
  refine mono _ _ ?_ h
  rintro vs H1 ⟨y, rfl, q⟩
  refine ⟨by simp, fun a na => ⟨a, y, rfl, upd_same, fun dx ndx ne => ⟨rfl, dx, [("value", y)], upd_same, ?_, ?_, ?_⟩⟩⟩
  · rw [upd_ne ne]; exact upd_same
  · by_cases e : dx = a
    · exact absurd e ne
    · rw [upd_ne e] at ndx; exact ndx
  · have nd : H1 dx = none := by rw [upd_ne ne] at ndx; exact ndx
    refine q dx _ (fun b o eb => ?_) nd upd_same
    have h1 : b ≠ a := ne_of_none eb na
    have h2 : b ≠ dx := ne_of_none eb nd
    rw [upd_ne h2]
    unfold del
    rw [if_neg h1, upd_ne h1, upd_ne h2, upd_ne h1]
    exact eb
/-! ### what stays when a lambda is made -/
theorem extN_seq {K : PySem.W.Frag} {H H' : Hp} (e : LamX.ExtN H H') {a : Addr} {xs : List V} (h : SqL K H a xs) : SqL K H' a xs := by
  rcases h with (h | ⟨o, h⟩) | h
  · exact .inl (.inl (e _ _ h fun _ z => nomatch z))
  · exact .inl (.inr ⟨o, e _ _ h fun _ z => nomatch z⟩)
  · exact .inr h
theorem extN_tup {K : PySem.W.Frag} {H H' : Hp} (e : LamX.ExtN H H') {a : Addr} {xs : List V} (h : SqT K H a xs) : SqT K H' a xs := by
  rcases h with (h | ⟨o, h⟩) | h
  · exact .inl (.inl (e _ _ h fun _ z => nomatch z))
  · exact .inl (.inr ⟨o, e _ _ h fun _ z => nomatch z⟩)
  · exact .inr h
theorem Dq.extN {K : PySem.W.Frag} {H H' : Hp} (e : LamX.ExtN H H') {v : V} {d : PyData} (h : Dq K H v d) : Dq K H' v d := by
  refine Dq.rec (motive_1 := fun v d _ => Dq K H' v d) (motive_2 := fun vs ds _ => DqAll K H' vs ds) ?_ ?_ ?_ ?_ ?_ ?_ ?_ ?_ ?_ h
  · exact .nonq
  · intro b; exact .blq b
  · intro i; exact .intq i
  · intro x; exact .strq x
  · intro a xs ds hs hne _ ih; exact .lstq (extN_seq e hs) hne ih
  · intro a xs ds hs _ ih; exact .tupq (extN_tup e hs) ih
  · intro a kvs des he hk _ ih; exact .dctq (e _ _ he fun _ z => nomatch z) hk ih
  · exact .nil
  · intro v vs d ds _ _ h1 h2; exact .cons h1 h2
theorem tabs_but {T : List (Addr × Str)} {H H' : Hp} {a : Addr} {xs : List V} (t : LamX.Tabs T H) (b : But a H H') (h : H a = some (.lst xs)) : LamX.Tabs T H' := fun p hp => by
  obtain ⟨ps, h1, h2, h3⟩ := t p hp
  refine ⟨ps, b _ _ (fun z => by rw [z, h] at h1; cases h1) h1, h2, fun pos cv hc => ?_⟩
  obtain ⟨c, e1, e2⟩ := h3 pos cv hc
  refine ⟨c, e1, b _ _ (fun z => ?_) e2⟩
  rw [z, h] at e2
  have e3 := Option.some.inj e2
  unfold LamX.CodeO at e3
  cases e3
theorem Tabs.same {T : List (Addr × Str)} {H H' : Hp} (t : LamX.Tabs T H) (s : Same H H') : LamX.Tabs T H' := LamX.Tabs.ext t s
/-! ### bs.count(True) -/
theorem dpBs {K : PySem.W.Frag} {H : Hp} : ∀ (bs : List Bool), DpAll K H (bs.map V.bl) (bs.map PyData.bool)
  | [] => .nil
  | b :: bs => .cons (.bl b) (dpBs bs)
def rCountB (K : PySem.W.Frag) : V → List V → Hp → VK → Prop := fun x xs H Q => ∃ (a : Addr) (bs : List Bool), x = .ref a ∧ xs = [.bl true] ∧ SqL K H a (bs.map V.bl) ∧ Q (.int (bs.countP id : Nat)) H
theorem mt_countB {X : Cx} (hu : X.A.units + 65 < cLine) : MtR X "list.count" (rCountB X.K) := by
  intro pins s σ H x xs v us Q I rx rxs h
  obtain ⟨a, bs, rfl, rfl, hs, q⟩ := h
  cases rx
  cases rxs with
  | cons ry rt =>
    rename_i uy ut
    cases rt
    cases ry
    obtain ⟨its, rv, ⟨o, n, ho, hc, hdn, hdt⟩, hlen⟩ := I.list hs
    obtain ⟨as, h4⟩ := Dp.readsAll I (bs.map PyData.bool) _ its (dpBs bs) rv
    have pl : ∀ l : List Bool, PyData.plainAll (l.map PyData.bool) = true := fun l => by
      induction l with
      | nil => rfl
      | cons b l ih => simp [PyData.plainAll, PyData.plain, ih]
    have dp : ∀ l : List Bool, PyData.depthAll (l.map PyData.bool) = 0 := fun l => by
      induction l with
      | nil => rfl
      | cons b l ih => simp [PyData.depthAll, PyData.depth, ih]
    refine SeqAt.count_list_data (xs := bs.map PyData.bool) (vs := its.toArray) (d := .bool true) ⟨o, ho, hc, n, hdt⟩ (by simpa using h4) (.bool true) (pl bs) rfl (by rw [dp]; omega) ?_
    have e : (bs.map PyData.bool).countP (fun y => PyData.eqv y (.bool true)) = bs.countP id := by
      rw [List.countP_map]
      congr 1
      funext b
      cases b <;> rfl
    rw [e]
    exact ⟨.int (bs.countP id : Nat), H, I.tok _, ⟨_, rfl⟩, q⟩
end MB

set_option maxHeartbeats 4000000
namespace MB
open PySem PySem.Spec PyProof.Rows L2
/-! ### a lambda with one parameter and no captured name, called -/
section
variable {P : Program} {w : World} {K : PySem.W.Frag} {mg : Str → Option Value} {base : Heap}
theorem lam1_call {A : Around} {outer : List Env} {s : Shared} {H : Hp} {N : List Str} {a q : Str} {params : Arguments} {body : Expr} {scope : Scope} {pm ctv u : Value} {f c' : Addr} {k : Nat} {x : V} {t : TE} {Q : VK}
    (hf : s.heap.get? f = some (PySem.W.kla_obj "<lambda>" q params body scope [] pm c' ctv)) (hc : H c' = some (LamX.CodeO c' q)) (S : FnScope N [a] scope) (hr : Room (k + 1) A) (e0 : Env0 P w K mg base A outer s H) (r : RelV x u)
    (bnd : bindArgs (PySem.W.kla_fn "<lambda>" q params body scope [] pm (.ref c') ctv) ⟨[u], []⟩ = pure [(a, u)])
    (bodyOk : Room k (A.deeper (envOfC q scope s.heap.objs.size f (.ref c'))) → PE (cxOf CX0 P w K mg base N q scope f (.ref c') A outer s H E0) body t)
    (ht : t (L2.start N [x]) H Q) : codeAny (model P w) A (.call (.ref f) ⟨[u], []⟩) (CR CX0 outer P w H s Q E0) s := by
  have lim : s.heap.NoLimit := e0.mod.nolimit.keeps fun b o e => (e0.bs b o e).1
  obtain ⟨⟨oc, vs, t', q1, q2, q3⟩, _, _⟩ := e0.hok c' _ hc
  refine PySem.W.kla_callFunE hr.depth hf rfl S.co S.gen rfl ⟨c', oc, vs, t', rfl, q1, q2, q3⟩ ?_
  rw [bnd]
  refine wpAny_pure ?_
  refine wpAny_newFunctionEnv_cells S.kind (fun y hy => ?_) fun env he s1 hin => ?_
  · obtain rfl : y = (a, u) := by simpa using hy
    rcases S.par a (.head _) with z | z
    · exact .inl z
    · exact .inr ⟨z, PySem.W.cellsFrom_some _ _ _ (.inl z)⟩
  · subst he
    refine ⟨lim.keeps hin.toInCall.keep, ?_⟩
    have J : Inv (cxOf CX0 P w K mg base N q scope f (.ref c') A outer s H E0) [] (L2.start N [x]) H s1 := inv_start (us := [u]) S hr.hd e0 rfl (.cons r .nil) hin
    exact PySem.W.kla_codeExpr (wpAny_mono ((bodyOk (hr.deeper _)).run [] _ _ H Q J ht) (fun v s' ⟨y, H', J', rv, z⟩ => ⟨y, H', J'.os, J'.bare, J'.base, J'.hok, rv, z⟩) fun e s' z => z)
end
/-! ### sorted(l, key=lambda x: ..) -/
section
variable {X : Cx} {pins : List (Addr × Obj)} {σ : L2.St} {s s0 : Shared} {H H0 : Hp}
theorem fresh_ok (I0 : Inv X pins σ H0 s0) {b : Addr} (h : s0.heap.objs.size ≤ b) : (b ∈ X.ex ∨ X.s_0.heap.objs.size ≤ b) ∧ b ≠ X.env.locals ∧ (∀ x c, X.env.cells.lookup x = some c → c ≠ b) ∧ (∀ p ∈ X.pn ++ pins, p.1 ≠ b) ∧ b ∉ X.fs := by
  refine ⟨.inr (Nat.le_trans I0.sz h), fun e => ?_, fun x c e z => ?_, fun p hp z => ?_, I0.nofs h⟩
  · have := I0.lt
    rw [← e] at this
    exact Nat.lt_irrefl _ (Nat.lt_of_lt_of_le this h)
  · obtain ⟨v, o, ho, _⟩ := I0.cell x c e
    have := Heap.lt_size ho
    rw [z] at this
    exact Nat.lt_irrefl _ (Nat.lt_of_lt_of_le this h)
  · have := Heap.lt_size (I0.pin p hp).1
    rw [z] at this
    exact Nat.lt_irrefl _ (Nat.lt_of_lt_of_le this h)
/-- the function's own object can be pinned -/
theorem fun_pin {q : Str} {params : Arguments} {body : Expr} {scope : Scope} {cl : List (Str × Addr)} {pm ctv : Value} {f c' : Addr} (I : Inv X pins σ H s)
    (hf : s.heap.get? f = some (PySem.W.kla_obj "<lambda>" q params body scope cl pm c' ctv)) (hfr : f ∉ frs X.stack) : f ≠ X.env.locals ∧ f ∉ X.fs := by
  refine ⟨fun z => ?_, fun z => hfr ?_⟩
  · obtain ⟨m, ⟨o, es, ep, ho, hr⟩, _⟩ := I.loc
    rw [← z, hf] at ho
    cases ho
    rcases hr with ⟨h1, h2⟩
    first
      | exact (nomatch h1)
      | exact (nomatch h2)
  · rcases I.ok.stk with e | ⟨e, he⟩
    · rw [e]; exact z
    · rw [e]
      unfold frs
      rw [List.filterMap_cons, he]
      exact List.mem_cons_of_mem _ z
theorem hide_get {h : Heap} {b c : Addr} {o : Obj} (e : h.get? b = some o) (n : b ≠ c) : (PySem.W.hideAll h [c]).get? b = some o := PySem.W.hideAll_get [c] e (by simpa using n)
/-- the sort's two lists turn: the keys' list is done with, the copy bears the outcome -/
theorem sorted_there {h' : Heap} {tk : Nat} {a kS : Addr} {its : List Value} {ys : List V} {c : Nat} (I0 : Inv X pins σ H0 s0) (I : Inv X pins σ H s) (ha : s0.heap.objs.size ≤ a) (hk : s0.heap.objs.size ≤ kS) (na : H a = none) (nk : H kS = none)
    (kp : ∀ b o, b ≠ a → b ≠ kS → s.heap.get? b = some o → h'.get? b = some o) (hl : ys.length ≤ sizeLine) (rv : Vals ys its) (ho : h'.get? a = some (seqObj "list" its.toArray c)) :
    Inv X pins σ (upd H a (.lst ys)) { s with heap := h', toks := tk } := by
  have sm : ∀ b u, H b = some u → b ≠ a := fun b u e => ne_of_none e na
  have sk : ∀ b u, H b = some u → b ≠ kS := fun b u e => ne_of_none e nk
  have neq : ∀ b, b ≠ a → upd H a (.lst ys) b = H b := fun b hb => upd_ne hb
  obtain ⟨a1, a2, a3, a4, a5⟩ := fresh_ok I0 ha
  obtain ⟨k1, k2, k3, k4, k5⟩ := fresh_ok I0 hk
  refine I.step (g' := s.gens) (d' := s.drawn) (ch := [a, kS]) (fun b hb => ?_) (fun b o _ _ hc e _ => kp b o (fun z => hc (by simp [z])) (fun z => hc (by simp [z])) e) (fun b o _ _ hc e _ => ⟨o.slots, kp b o (fun z => hc (by simp [z])) (fun z => hc (by simp [z])) e⟩)
    (fun b o hc _ n => by rw [neq b (fun z => hc (by simp [z]))]; exact n) (fun b o hc e => ⟨o, kp b o (fun z => hc (by simp [z])) (fun z => hc (by simp [z])) e⟩)
    (fun b xs e => by rw [neq b (sm _ _ e)]; exact e) (fun b o u e => by rw [neq b (sm _ _ e)]; exact e) (fun b ps e => ⟨#[], by rw [neq b (sm _ _ e), e]; simp⟩) (fun m hm => ?_) (fun b u e => ?_) I.bare
  · simp only [List.mem_cons, List.not_mem_nil, or_false] at hb
    rcases hb with rfl | rfl
    · exact ⟨a1, a2, a3, a4⟩
    · exact ⟨k1, k2, k3, k4⟩
  · obtain ⟨o, es, ep, ho', r⟩ := hm
    exact ⟨o, es, ep, kp _ o (Ne.symm a2) (Ne.symm k2) ho', r⟩
  · by_cases hb : b = a
    · rw [hb, upd_same] at e
      cases e
      rw [hb]
      exact ⟨hl, its, c, rv, ho⟩
    · rw [neq b hb] at e
      refine (I.hok b u e).stay (fun d v hd q => kp d v ?_ ?_ q) (fun d q => by rw [neq d (sm d _ q)]; exact q) fun d xs q => by rw [neq d (sm d _ q)]; exact q
      · rcases hd with z | z
        · rw [z]; exact hb
        · exact sm d _ z
      · rcases hd with z | z
        · rw [z]; exact sk b u e
        · exact sk d _ z
end
section
variable {X : Cx} {pins : List (Addr × Obj)} {σ : L2.St} {s : Shared} {H : Hp}
theorem dps_each {h : Heap} {K : PySem.W.Frag} {Hq : Hp} (hr : ∀ v d u, Dp K Hq v d → RelV v u → ∃ as, Reads h u d as) : ∀ {ys : List V} {us : List Value} {ds : List PyData}, DpAll K Hq ys ds → Vals ys us → PySem.W.EachIs (fun v d => ∃ as, Reads h v d as) us ds
  | _, _, _, .nil, .nil => .nil
  | _, _, _, .cons a b, .cons r rs => .cons (hr _ _ _ a r) (dps_each hr b rs)
theorem vals_each : ∀ {bs : List (V × PyData)} {us : List Value}, Vals (bs.map Prod.fst) us → PySem.W.EachIs (fun (v : Value) (b : V × PyData) => RelV b.1 v) us bs
  | [], [], .nil => .nil
  | _ :: _, _ :: _, .cons r rs => .cons r (vals_each rs)
theorem each_vals : ∀ {bs : List (V × PyData)} {us : List Value}, PySem.W.EachIs (fun (v : Value) (b : V × PyData) => RelV b.1 v) us bs → Vals (bs.map Prod.fst) us
  | [], [], .nil => .nil
  | _ :: _, _ :: _, .cons r rs => .cons r (each_vals rs)
/-- the state while the keys are made -/
def KeysSoFar (X : Cx) (pins : List (Addr × Obj)) (σ : L2.St) (H : Hp) (f a kS : Addr) (fo : Obj) (e1 : Nat) (kz : List PyData) (i : Nat) (s' : Shared) : Prop :=
  ∃ (G : Hp) (kA : Array Value) (eK : Nat) (ys : List V), Inv X (pins ++ [(f, fo), (a, seqObj "list" #[] e1), (kS, seqObj "list" kA eK)]) σ G s' ∧ Same H G ∧ Vals ys kA.toList ∧ DpAll X.K G ys (kz.take i)
theorem sorted_keys {l f c' : Addr} {q x : Str} {N : List Str} {params : Arguments} {body : Expr} {scope : Scope} {pm ctv : Value} {k : Nat} {t : TE} {bs : List (V × PyData)} {Q : VK}
    (I : Inv X pins σ H s) (hl : SqL X.K H l (bs.map Prod.fst)) (hf : s.heap.get? f = some (PySem.W.kla_obj "<lambda>" q params body scope [] pm c' ctv)) (hfn : H f = none) (hfr : f ∉ frs X.stack) (hco : H c' = some (LamX.CodeO c' q))
    (S : FnScope N [x] scope) (hr : Room (k + 3) X.A) (bnd : ∀ u, bindArgs (PySem.W.kla_fn "<lambda>" q params body scope [] pm (.ref c') ctv) ⟨[u], []⟩ = pure [(x, u)])
    (bodyOk : ∀ (A : Around) (outer : List Env) (s : Shared) (H : Hp) (f c' : Addr), Room k (A.deeper (envOfC q scope s.heap.objs.size f (.ref c'))) → PE (cxOf CX0 X.prog X.w X.K X.mg X.base N q scope f (.ref c') A outer s H E0) body t)
    (hal : PySem.W.AllAlike (bs.map Prod.snd)) (hsk : 2 ≤ bs.length → PySem.W.Sortable (bs.map Prod.snd)) (hd : ∀ b ∈ bs, b.2.depth ≤ 64)
    (turn : ∀ b ∈ bs, ∀ G, Same H G → t (L2.start N [b.1]) G fun y G' => Same G G' ∧ Dp X.K G' y b.2)
    (fin : ∀ p G, Same H G → G p = none → Q (.ref p) (upd G p (.lst ((bs.mergeSort (PySem.W.dataLe false Prod.snd)).map Prod.fst)))) :
    wpAny (model X.prog X.w) X.A (call (.builtin "sorted") [.ref l] [(Str.ofString "key", .ref f)]) (EP X pins σ Q) X.xe s := by
  obtain ⟨its, rv, hpl, hz⟩ := I.list hl
  have hlen : its.length = bs.length := by rw [← rv.length, List.length_map]
  rw [List.length_map] at hz
  obtain ⟨fL, fF⟩ := fun_pin I hf hfr
  refine PySem.W.sorted_of_sort (kw := [(Str.ofString "key", .ref f)]) hpl.isList (by rw [hlen]; exact hz) (ksk_s1 _ _) (fun _ => ksk_l1 _ _) fun E' => ?_
  rw [ksk_t1]
  have hcop : ∀ b o, s.heap.get? b = some o → (PySem.W.copyHeap s.heap its).get? b = some o := fun b o e => PySem.W.copyHeap_old e
  have hca := PySem.W.copyHeap_at s.heap its
  generalize eh1 : PySem.W.copyHeap s.heap its = h1 at hcop hca ⊢
  generalize ea : s.heap.objs.size + 1 = a at hca ⊢
  have haz : s.heap.objs.size ≤ a := by omega
  have ha1 : a < h1.objs.size := Heap.lt_size hca
  obtain ⟨e1, ho1⟩ : ∃ e1, (h1.update a (Obj.mapSeq fun _ => (#[] : Array Value))).get? a = some (seqObj "list" #[] e1) := ⟨_, get?_update_seq hca fun _ => #[]⟩
  have hb1 := Heap.SameBut.update h1 a (Obj.mapSeq fun _ => (#[] : Array Value))
  unfold ksk_tree
  refine wpAny_bind (listItems_at hca rfl ?_)
  refine wpAny_bind (listUpdate_at hca rfl ?_ (by rw [List.size_toArray, hlen]; exact hz) (Nat.zero_le _))
  refine wpAny_bind (seqEpoch_at ho1 rfl ?_)
  refine wpAny_bind (wpAny_newTuple ?_ (by show its.length ≤ _; rw [hlen]; exact hz))
  refine wpAny_bind (wpAny_newList ?_ (Nat.zero_le _))
  refine wpAny_holding ?_
  have hsz2 : (h1.update a (Obj.mapSeq fun _ => (#[] : Array Value))).objs.size = h1.objs.size := Heap.size_update ..
  have hk2 : ((h1.update a (Obj.mapSeq fun _ => (#[] : Array Value))).push (seqObj "tuple" its.toArray 0)).objs.size = h1.objs.size + 1 := by rw [size_push', hsz2]
  show wpAny _ _ (ksk_rest a (.ref f) false its.toArray e1 (.ref ((h1.update a (Obj.mapSeq fun _ => (#[] : Array Value))).push (seqObj "tuple" its.toArray 0)).objs.size)) _ _ { s with heap := ((h1.update a (Obj.mapSeq fun _ => (#[] : Array Value))).push (seqObj "tuple" its.toArray 0)).push (seqObj "list" #[] 0) }
  rw [hk2]
  have hkS : (((h1.update a (Obj.mapSeq fun _ => (#[] : Array Value))).push (seqObj "tuple" its.toArray 0)).push (seqObj "list" #[] 0)).get? (h1.objs.size + 1) = some (seqObj "list" #[] 0) := by
    rw [← hk2]; exact Heap.get?_push_size _ rfl
  have hao : (((h1.update a (Obj.mapSeq fun _ => (#[] : Array Value))).push (seqObj "tuple" its.toArray 0)).push (seqObj "list" #[] 0)).get? a = some (seqObj "list" #[] e1) := Heap.get?_push_of_some _ (Heap.get?_push_of_some _ ho1)
  have hkp : ∀ b o, s.heap.get? b = some o → (((h1.update a (Obj.mapSeq fun _ => (#[] : Array Value))).push (seqObj "tuple" its.toArray 0)).push (seqObj "list" #[] 0)).get? b = some o := fun b o e => by
    have := Heap.lt_size e
    exact Heap.get?_push_of_some _ (Heap.get?_push_of_some _ ((hb1.2 b (Nat.ne_of_lt (Nat.lt_of_lt_of_le this haz))).trans (hcop b o e)))
  have hsz1 : s.heap.objs.size ≤ h1.objs.size + 1 := by omega
  generalize ((h1.update a (Obj.mapSeq fun _ => (#[] : Array Value))).push (seqObj "tuple" its.toArray 0)).push (seqObj "list" #[] 0) = h2 at hkS hao hkp ⊢
  generalize ek : h1.objs.size + 1 = kS at hkS hsz1 ⊢
  have hka : kS ≠ a := by omega
  clear hb1 ho1 hsz2 hk2 hcop hca
  obtain ⟨g1, g2, g3, g4, g5⟩ := fresh_ok I haz
  obtain ⟨j1, j2, j3, j4, j5⟩ := fresh_ok I hsz1
  have I2 : Inv X pins σ H { s with heap := h2, toks := s.toks } := I.kept hkp
  unfold ksk_rest
  refine wpAny_bind (wpAny_rule ?_)
  first
    | rw [List.forIn_toArray]
    | (rw [← Array.forIn_toList]; simp only [List.toList_toArray])
  have start : KeysSoFar X pins σ H f a kS (PySem.W.kla_obj "<lambda>" q params body scope [] pm c' ctv) e1 (bs.map Prod.snd) 0 { s with heap := h2, toks := s.toks } := by
    refine ⟨H, #[], 0, [], I2.pins_of fun p hp => ?_, Same.refl _, .nil, by rw [List.take_zero]; exact .nil⟩
    rcases List.mem_append.mp hp with hp | hp
    · exact I2.pin p (List.mem_append_right _ hp)
    · simp only [List.mem_cons, List.not_mem_nil, or_false] at hp
      rcases hp with rfl | rfl | rfl
      · exact ⟨hkp _ _ hf, hfn, fL, fF, fun v z => nomatch z⟩
      · exact ⟨hao, I.hok.fresh haz, g2, g5, fun v z => nomatch z⟩
      · exact ⟨hkS, I.hok.fresh hsz1, j2, j5, fun v z => nomatch z⟩
  refine wpAny_bind (ksk_fold (KeysSoFar X pins σ H f a kS (PySem.W.kla_obj "<lambda>" q params body scope [] pm c' ctv) e1 (bs.map Prod.snd)) its 0 _ start ?_ ?_)
  · rintro j u s' hu ⟨G, kA, eK, ys, J, sG, vk, dk⟩
    simp only [Nat.zero_add] at dk ⊢
    have hj : j < bs.length := by have := (List.getElem?_eq_some_iff.mp hu).1; omega
    have hb := List.getElem?_eq_getElem hj
    have hmem := List.getElem_mem hj
    generalize bs[j] = b at hb hmem
    have rb : RelV b.1 u := by
      obtain ⟨u', h1', h2'⟩ := rv.get (i := j) (x := b.1) (by rw [List.getElem?_map, hb]; rfl)
      rw [hu] at h1'; cases h1'; exact h2'
    have pf := J.pin (f, PySem.W.kla_obj "<lambda>" q params body scope [] pm c' ctv) (by simp)
    have hcod := sG _ _ hco
    have run := lam1_call (Q := fun y G' => Same G G' ∧ Dp X.K G' y b.2) pf.1 hcod S (hr.in1.in1) J.env0.in1.in1 rb (bnd u) (fun hr' => bodyOk _ _ _ _ _ _ hr') (turn b hmem G sG)
    refine wpAny_bind (wpAny_attempt (wpAny_mono (wpAny_call (Q := EP X (pins ++ [(f, PySem.W.kla_obj "<lambda>" q params body scope [] pm c' ctv), (a, seqObj "list" #[] e1), (kS, seqObj "list" kA eK)]) σ (fun y G' => Same G G' ∧ Dp X.K G' y b.2)) (E := fun _ _ => False) (codeAny_mono run fun r s2 z => ?_)) (fun u2 s2 z => ?_) fun _ _ z => z.elim))
    · rcases r with e | fl
      · exact (show False from z).elim
      · rcases fl with _ | _ | _ | u
        · exact False.elim z
        · exact False.elim z
        · exact False.elim z
        · exact J.after z
    obtain ⟨y, G2, J2, ry, s12, dy⟩ := z
    have nk := J2.pin (kS, seqObj "list" kA eK) (by simp)
    have hkz : kA.size ≤ bs.length := by
      rw [show kA.size = _ from Array.length_toList.symm.trans (vk.length.symm.trans (DpAll.len dk)), List.length_take, List.length_map]
      exact Nat.min_le_right _ _
    obtain ⟨c2, hc2⟩ : ∃ c2, (s2.heap.update kS (Obj.mapSeq (·.push u2))).get? kS = some (seqObj "list" (kA.push u2) c2) := ⟨_, get?_update_seq nk.1 (·.push u2)⟩
    have hb2 := Heap.SameBut.update s2.heap kS (Obj.mapSeq (·.push u2))
    dsimp only
    refine wpAny_bind (listUpdate_at nk.1 rfl ?_ (Nat.le_trans hkz hz) (Nat.le_trans (Nat.le_of_eq (Array.size_push ..)) (Nat.succ_le_succ (Nat.le_trans hkz hz))))
    have ns : ∀ p ∈ X.pn ++ pins, p.1 ≠ kS := j4
    have J3 : Inv X pins σ G2 s2 := J2.pins_of fun p hp => J2.pin p (List.mem_append_right _ (List.mem_append_left _ hp))
    have J4 : Inv X pins σ G2 { s2 with heap := s2.heap.update kS (Obj.mapSeq (·.push u2)), toks := s2.toks } := J3.turned (fun b o hb e => (hb2.2 b hb).trans e) nk.2.1 j2 j1 j3 j4
    refine wpAny_pure ⟨rfl, G2, kA.push u2, c2, ys ++ [y], J4.pins_of fun p hp => ?_, sG.trans s12, ?_, ?_⟩
    · rcases List.mem_append.mp hp with hp | hp
      · exact J4.pin p (List.mem_append_right _ hp)
      · simp only [List.mem_cons, List.not_mem_nil, or_false] at hp
        rcases hp with rfl | rfl | rfl
        · obtain ⟨p1, p2, p3, p4, p5⟩ := J2.pin (f, PySem.W.kla_obj "<lambda>" q params body scope [] pm c' ctv) (by simp)
          exact ⟨(hb2.2 f (Nat.ne_of_lt (Nat.lt_of_lt_of_le (Heap.lt_size hf) hsz1))).trans p1, p2, p3, p4, p5⟩
        · obtain ⟨p1, p2, p3, p4, p5⟩ := J2.pin (a, seqObj "list" #[] e1) (by simp)
          exact ⟨(hb2.2 a hka.symm).trans p1, p2, p3, p4, p5⟩
        · exact ⟨hc2, nk.2.1, nk.2.2.1, nk.2.2.2.1, fun v z => nomatch z⟩
    · have ea : (kA.push u2).toList = kA.toList ++ [u2] := by simp
      rw [ea]
      exact vk.append (.cons ry .nil)
    · have et : (bs.map Prod.snd).take (j + 1) = (bs.map Prod.snd).take j ++ [b.2] := by rw [List.take_add_one, List.getElem?_map, hb]; rfl
      rw [et]
      exact DpAll.append (DpAll.same s12 dk) (.cons dy .nil)
  · rintro s' ⟨G, kA, eK, ys, J, sG, vk, dk⟩
    rw [show (bs.map Prod.snd).take (0 + its.length) = bs.map Prod.snd from List.take_of_length_le (by rw [List.length_map]; omega)] at dk
    have nk := J.pin (kS, seqObj "list" kA eK) (by simp)
    have na := J.pin (a, seqObj "list" #[] e1) (by simp)
    have hks : kA.size = its.length := by
      rw [show kA.size = _ from Array.length_toList.symm.trans (vk.length.symm.trans (DpAll.len dk)), List.length_map]
      exact hlen.symm
    have he : PySem.W.EachIs (fun v d => ∃ as, Reads s'.heap v d as) kA.toList (bs.map Prod.snd) := dps_each (fun v d u hd hu => Dp.reads J d v u hd hu) dk vk
    have J3 : Inv X pins σ G s' := J.pins_of fun p hp => J.pin p (List.mem_append_right _ (List.mem_append_left _ hp))
    refine wpAny_bind (listItems_at nk.1 rfl ?_)
    have leave : ∀ (h3 : Heap) (tk3 c : Nat) (out : List Value), PySem.W.KeepsBut a (PySem.W.hideAll s'.heap [kS]) h3 → h3.get? a = some (seqObj "list" out.toArray c) → Vals ((bs.mergeSort (PySem.W.dataLe false Prod.snd)).map Prod.fst) out → EP X pins σ Q (.ref a) { s' with heap := h3, toks := tk3 } := fun h3 tk3 c out kp3 n3 hout => by
      have hz3 : ((bs.mergeSort (PySem.W.dataLe false Prod.snd)).map Prod.fst).length ≤ sizeLine := by rw [List.length_map, List.length_mergeSort]; exact hz
      exact ⟨.ref a, _, sorted_there (kS := kS) I J3 haz hsz1 na.2.1 nk.2.1 (fun b o h1' h2' e => kp3 b o h1' (PySem.W.hideAll_get [kS] e (by simpa using h2'))) hz3 hout n3, rfl, fin a G sG na.2.1⟩
    by_cases h2l : 2 ≤ bs.length
    rotate_left
    · unfold ksk_end
      have hits2 : its.toArray.size < 2 := by rw [List.size_toArray]; omega
      simp only [Bool.false_eq_true, if_false]
      rw [if_pos hits2, if_pos hits2]
      refine wpAny_bind (wpAny_pure ?_)
      rw [StateT.run_pure]
      refine wpAny_bind (wpAny_pure ?_)
      dsimp only
      have hsrt : bs.mergeSort (PySem.W.dataLe false Prod.snd) = bs := by
        match bs, h2l with
        | [], _ => simp
        | [b], _ => simp
        | _ :: _ :: r, h => exact absurd (by simp) h
      have hzip : (arrOf (SortSt.mk' general' (kA.zip its.toArray) #[] 7 none)).map (·.2) = its.toArray := by
        show (kA.zip its.toArray).map (·.2) = its.toArray
        apply Array.ext'
        rw [Array.toList_map, ksk_zip]
        exact List.map_snd_zip (Nat.le_of_eq (hks.symm.trans Array.length_toList.symm))
      refine PySem.W.keyH_tail (b := false) (out := its) (keys := kA) (h₁ := PySem.W.hideAll s'.heap [kS]) (fun b o _ e => PySem.W.of_hideAll _ e) (PySem.W.hideAll_none [kS] (by simp)) nk.1 na.1 hka (by rw [hks, hlen]; exact hz) (by rw [hlen]; exact hz) rfl (by simpa using hzip) fun h3 tk3 c kp3 n3 => ⟨rfl, leave h3 tk3 c _ kp3 n3 ?_⟩
      rw [hsrt]
      exact rv
    have srt := PySem.W.SortsAt.data (prog := X.prog) (w := X.w) (A := X.A.in1.in1) he hal (hsk h2l) (fun d hdm => by
      obtain ⟨b, hb, rfl⟩ := List.mem_map.mp hdm
      have := hd b hb
      have := hr.un
      show X.A.units + 1 + 1 + _ < _
      omega)
    refine PySem.W.keyH_end (κ := PySem.W.dataKind s'.heap (bs.map Prod.snd)) (h₁ := PySem.W.hideAll s'.heap [kS]) (vs := its) (fun b o _ e => PySem.W.of_hideAll _ e) (PySem.W.hideAll_none [kS] (by simp)) nk.1 na.1 hka srt hks (by rw [hlen]; exact hz) fun h3 tk3 c kp3 n3 => ⟨rfl, ?_⟩
    have ko : PySem.W.KeyedOut false (bs.map Prod.snd) its (PySem.W.sortVals (PySem.W.dataKind s'.heap (bs.map Prod.snd)) false kA.toList its) := ⟨s'.heap, kA.toList, hal, rfl, he⟩
    have hout := each_vals (PySem.W.keyedOut_each (rev := false) Prod.snd ko (vals_each rv))
    exact leave h3 tk3 c _ kp3 n3 hout
theorem no_free {cells : List (Str × Addr)} : ∀ {names : List (Str × NameKind)}, (∀ y ∈ names, y.2 ≠ .free) → cloFrom cells names [] = []
  | [], _ => rfl
  | (n, k) :: r, h => by
    have hk : k ≠ .free := h (n, k) (.head _)
    have e : (k == NameKind.free) = false := by cases k <;> first | rfl | exact absurd rfl hk
    unfold cloFrom
    rw [e]
    exact no_free (names := r) fun y hy => h y (.tail _ hy)
end
/-- sorted(e, key=lambda x: ..): the keys are data that compare -/
def tSortK (K : PySem.W.Frag) (T : List (Addr × Str)) (N : List Str) (t te : TE) : TE := fun σ H Q => te σ H fun v H1 => LamX.Tabs T H1 ∧ ∀ H2, LamX.ExtN H1 H2 → LamX.Tabs T H2 →
  ∃ (l : Addr) (bs : List (V × PyData)), v = .ref l ∧ SqL K H2 l (bs.map Prod.fst) ∧ PySem.W.AllAlike (bs.map Prod.snd) ∧ (2 ≤ bs.length → PySem.W.Sortable (bs.map Prod.snd)) ∧ (∀ b ∈ bs, b.2.depth ≤ 64) ∧
    (∀ b ∈ bs, ∀ G, Same H2 G → t (L2.start N [b.1]) G fun y G' => Same G G' ∧ Dp K G' y b.2) ∧
    ∀ p G, Same H2 G → G p = none → Q (.ref p) (upd G p (.lst ((bs.mergeSort (PySem.W.dataLe false Prod.snd)).map Prod.fst)))
section
variable {X : Cx}
theorem pe_sortK {T : List (Addr × Str)} {x a : Str} {c P : Addr} {k : Nat} {N : List Str} {e : Expr} {params : Arguments} {body : Expr} {scope : Scope} {t te : TE} {p lpos kpos pos : Pos}
    (hg : Gl X x) (hm : X.mg x = none) (hv : bootBuiltins x = some (.builtin "sorted")) (he : PE X e te) (TB : LamX.TabB X.base X.mg c P) (hcode : X.env.code = .ref c) (hmT : (P, X.env.qual ++ "<lambda>") ∈ T) (hu : ∀ p ∈ T, p.1 = P → p.2 = X.env.qual ++ "<lambda>")
    (hr : Room (k + 3) X.A) (S : FnScope N [a] scope) (hdef : defaultsOf params X.env = ([], []))
    (bnd : ∀ (q : Str) (pm cv ctv u : Value), bindArgs (PySem.W.kla_fn "<lambda>" q params body scope [] pm cv ctv) ⟨[u], []⟩ = pure [(a, u)])
    (bodyOk : ∀ (A : Around) (outer : List Env) (s : Shared) (H : Hp) (f c' : Addr), Room k (A.deeper (envOfC (X.env.qual ++ "<lambda>") scope s.heap.objs.size f (.ref c'))) →
      PE (cxOf CX0 X.prog X.w X.K X.mg X.base N (X.env.qual ++ "<lambda>") scope f (.ref c') A outer s H E0) body t)
    (hst : starEach [e] X.env = (false, eval e X.env) :: starEach [] X.env := by rfl)
    (hn : x ≠ "__name__" := by decide) (hdb : (x == ("__debug__" : Str)) = false := by decide)
    (hbk : backTo pos (starEach [e] X.env) = (false, eval e X.env) :: backTo pos (starEach [] X.env) := by rfl) (hpl : (backTo pos (starEach [e] X.env)).any (·.1) = false := by rfl)
    (hall : (backToKw pos (keywordEach [⟨some "key", .Lambda params body scope lpos, kpos⟩] X.env)).all (·.1.isSome) = true := by rfl) (hnone : (backToKw pos (keywordEach [⟨some "key", .Lambda params body scope lpos, kpos⟩] X.env)).any (·.1.isNone) = false := by rfl) :
    PE X (.Call (.Name x p) [e] [⟨some "key", .Lambda params body scope lpos, kpos⟩] pos) (tSortK X.K T N t te) := by
  refine ⟨fun pins s σ H Q I h => ?_⟩
  refine wpAny_Call_Name_kw (ld_blt I hg hm hv ?_ hn hdb)
  let P1 : V → Hp → Prop := fun v H1 => LamX.Tabs T H1 ∧ ∀ H2, LamX.ExtN H1 H2 → LamX.Tabs T H2 →
    ∃ (l : Addr) (bs : List (V × PyData)), v = .ref l ∧ SqL X.K H2 l (bs.map Prod.fst) ∧ PySem.W.AllAlike (bs.map Prod.snd) ∧ (2 ≤ bs.length → PySem.W.Sortable (bs.map Prod.snd)) ∧ (∀ b ∈ bs, b.2.depth ≤ 64) ∧
      (∀ b ∈ bs, ∀ G, Same H2 G → t (L2.start N [b.1]) G fun y G' => Same G G' ∧ Dp X.K G' y b.2) ∧
      ∀ p G, Same H2 G → G p = none → Q (.ref p) (upd G p (.lst ((bs.mergeSort (PySem.W.dataLe false Prod.snd)).map Prod.fst)))
  have hP : tCons te tNil σ H (fun vs H1 => match vs with | [v] => P1 v H1 | _ => False) := h
  refine callWith_kw (thn ((pa_cons he pa_nil hst).run pos pins s σ H _ I hP) fun us s1 ⟨vs, H1, I1, r1, q1⟩ => ?_) hbk hpl hall hnone
  obtain ⟨v, rfl, hT, q2⟩ : ∃ v, vs = [v] ∧ P1 v H1 := by
    cases vs with
    | nil => exact (show False from q1).elim
    | cons v vs =>
      cases vs with
      | nil => exact ⟨v, rfl, q1⟩
      | cons _ _ => exact (show False from q1).elim
  obtain ⟨u, rfl, ru⟩ := vals1 r1
  show wpAny _ _ (evalAll [do let v ← eval (.Lambda params body scope lpos) X.env; standAt pos; pure v]) _ _ s1
  refine wpAny_evalAll_cons (wpAny_bind (LamX.lam_make2 I1 TB hcode hmT hu hT hdef (fun y hy z => absurd z (S.nofree y hy)) fun f c' pm ctv H2 s2 I2 eN T2 hf hfn hfr hco => ?_))
  refine wpAny_bind (wpAny_standAt (wpAny_pure ?_))
  refine wpAny_evalAll_nil ?_
  rw [no_free S.nofree] at hf
  obtain ⟨l, bs, rfl, a1, a2, a3, a4, a5, a6⟩ := q2 H2 eN T2
  obtain rfl : u = Value.ref l := ru
  exact sorted_keys I2 a1 hf hfn hfr hco S hr (fun u => bnd _ _ _ _ u) bodyOk a2 a3 a4 a5 a6
end
end MB

set_option maxHeartbeats 4000000
namespace MB
open PySem PySem.Spec PyProof.Rows L2
/-! ### a lambda handed to a def, whose handler reads the def's own names: what the call lets out is told at the slots of the call -/
section
variable {X : Cx} {pins : List (Addr × Obj)} {σ : L2.St} {H : Hp} {s : Shared}
theorem pe_actE {CXg : CXT} {Eg : XK} {Ng : List Str} {qg : Str} {sg : Scope} {g f c' : Addr} {cdg pm ctv : Value} {params : Arguments} {body : Expr} {scope : Scope} {k i : Nat} {a : Str} {pn : List (Addr × Obj)} {xe : Value → Shared → Prop} {W : WX} {E : XK} {tb : TE} {p1 p2 : Pos}
    (I : Inv X pins σ H s) (L : LamX.LamS X.env.scope scope) (hf : s.heap.get? f = some (PySem.W.kla_obj "<lambda>" (X.env.qual ++ "<lambda>") params body scope (cloFrom X.env.cells scope.names []) pm c' ctv)) (hfn : H f = none) (hfr : f ∉ frs X.stack)
    (bnd : bindArgs (PySem.W.kla_fn "<lambda>" (X.env.qual ++ "<lambda>") params body scope (cloFrom X.env.cells scope.names []) pm (.ref c') ctv) ⟨[], []⟩ = pure [])
    (tk : Takes ((cxOf CXg X.prog X.w X.K X.mg X.base Ng qg sg g cdg X.A X.stack s H Eg).tr pn xe) W) (hr : Room (k + 1) (X.A.deeper (envOfC qg sg s.heap.objs.size g cdg)))
    (bodyOk : ∀ (A : Around) (outer : List Env) (s : Shared) (H : Hp), Room k (A.deeper (LamX.lamEnv X scope s.heap.objs.size f c')) → PE (LamX.lamCx X A outer s H E scope f c') body tb)
    (hN : Ng[i]? = some a) (vis : Vis sg a) (hd : (a == ("__debug__" : Str)) = false := by decide) (hcd : (a == ("__classdict__" : Str)) = false := by decide) :
    PE ((cxOf CXg X.prog X.w X.K X.mg X.base Ng qg sg g cdg X.A X.stack s H Eg).tr pn xe) (.Call (.Name a p1) [] [] p2)
      (fun σ2 H2 Q => σ2[i]? = some (some (.ref f)) ∧ H2 c' = some (LamX.CodeO c' (X.env.qual ++ "<lambda>")) ∧ (∀ cls d H', E cls d H' → W cls d σ2 H') ∧ tb σ H2 Q) :=
  ⟨fun pins2 s2 σ2 H2 Q J ⟨hs, hc, hW, ht⟩ => wpAny_Call_Name_kw (thn ((pe_var (pos := p1) (i := i) hN vis hd hcd).run pins2 s2 σ2 H2 (fun v G => v = .ref f ∧ G = H2) J ⟨.ref f, hs, rfl, rfl⟩) fun u s1 ⟨v, H1, J1, r1, ev, eH⟩ => by
    subst ev eH
    obtain rfl : u = Value.ref f := r1
    have kf := J1.base.keep f _ hf hfn hfr (fun z => nomatch (show f ∈ ([] : List Addr) from z))
    have un : Un (frs X.stack) [] H H1 s.heap s1.heap := J1.base
    obtain ⟨⟨oc, vs, t, q1, q2, q3⟩, _, _⟩ := J1.hok c' _ hc
    have run : codeAny (model X.prog X.w) (X.A.deeper (envOfC qg sg s.heap.objs.size g cdg)) (.call (.ref f) ⟨[], []⟩) (CR (L2.CX X.prog X.w) (envOfC qg sg s.heap.objs.size g cdg :: X.stack) X.prog X.w H1 s1 Q E) s1 := by
      refine PySem.W.kla_callFunE hr.depth kf rfl L.co L.gen rfl ⟨c', oc, vs, t, rfl, q1, q2, q3⟩ ?_
      rw [bnd]
      refine wpAny_pure (wpAny_newFunctionEnv (fun y hy => (L.own y hy).2) (fun y hy => absurd hy (by simp)) (fun h₁ n1 n2 => ⟨J1.nolimit.fresh _ n2, show codeAny _ _ (.expr body (LamX.lamEnv X scope s1.heap.objs.size f c')) _ _ from ?_⟩) L.kind)
      have st : Inv (LamX.lamCx X (X.A.deeper (envOfC qg sg s.heap.objs.size g cdg)) (envOfC qg sg s.heap.objs.size g cdg :: X.stack) s1 H1 E scope f c') [] σ H1 { s1 with heap := h₁, toks := s1.toks + ([] : List (Str × Value)).length } :=
        LamX.lam_start2 I L J1.env0 hr.hd un n1 fun b o e => n2.extBut b o (Nat.ne_of_lt (Heap.lt_size e)) (Heap.get?_push_of_some _ e)
      exact PySem.W.kla_codeExpr (wpAny_mono ((bodyOk _ _ s1 H1 (hr.deeper _)).run [] _ _ H1 Q st ht) (fun v s' ⟨y, H', J', rv, z⟩ => ⟨y, H', J'.os, J'.bare, J'.base, J'.hok, rv, z⟩) fun e s' z => z)
    refine PySem.W.callWith_F0 ⟨_, _, _, _, kf⟩ (wpAny_call (codeAny_mono run fun r s' z => ?_))
    rcases r with e | fl
    · exact tk e s' (XE.of_call J1 (fun cls d H' h => hW cls d H' h) z)
    · rcases fl with _ | _ | _ | u
      · exact False.elim z
      · exact False.elim z
      · exact False.elim z
      · exact J1.after z)⟩
end
/-- the def that calls what it got, TT: what it makes of the lambda's reading -/
def GivesE (X : Cx) (Ng : List Str) (x : Str) (sg : Scope) (g : Addr) (cdg : Value) (bg : List Stmt) (a : Str) (q : Str) (TT : (XK → Hp → VK → Prop) → Hp → VK → Prop) : Prop :=
  ∀ (f c' : Addr) (s : Shared) (H : Hp) (Q : VK) (tl : XK → Hp → VK → Prop),
    (∀ (W : WX) (pn : List (Addr × Obj)) (xe : Value → Shared → Prop) (E : XK) (p1 p2 : Pos), Takes ((cxOf CX0 X.prog X.w X.K X.mg X.base Ng x sg g cdg X.A X.stack s H E0).tr pn xe) W →
      PE ((cxOf CX0 X.prog X.w X.K X.mg X.base Ng x sg g cdg X.A X.stack s H E0).tr pn xe) (.Call (.Name a p1) [] [] p2) (fun σ2 H2 Q => σ2[0]? = some (some (.ref f)) ∧ H2 c' = some (LamX.CodeO c' q) ∧ (∀ cls d H', E cls d H' → W cls d σ2 H') ∧ tl E H2 Q)) →
    H c' = some (LamX.CodeO c' q) → TT tl H Q →
    ∃ t, PSs (cxOf CX0 X.prog X.w X.K X.mg X.base Ng x sg g cdg X.A X.stack s H E0).nox bg t ∧ t { nx := fun _ H' => Q .non H', rt := Q } (L2.start Ng [.ref f]) H
section
variable {X : Cx}
/-- x(lambda: body) -/
theorem pe_lamE {T : List (Addr × Str)} {TT : (XK → Hp → VK → Prop) → Hp → VK → Prop} {x a : Str} {g c P : Addr} {k : Nat} {pg : Arguments} {bg : List Stmt} {sg : Scope} {dV kV doc pm cdv ct oc : Value} {an od : Option Addr} {osl : Array (Option Value)} {Ng : List Str}
    {params : Arguments} {body : Expr} {scope : Scope} {t : XK → TE} {p lpos pos : Pos} (hg : Gl X x) (hm : X.mg x = some (.ref g)) (hk : PySem.W.keepIn X.K (.ref g) = true)
    (lk : X.K.lookup g = some ⟨oc, od, .func (PySem.W.fnOf x x pg bg sg dV kV doc pm an cdv ct), osl⟩) (hcg : PySem.W.codeIn X.K cdv x = true) (hb : L2.Binds X.K (PySem.W.fnOf x x pg bg sg dV kV doc pm an cdv ct) [a] []) (Sg : FnScope Ng [a] sg) (hNg : Ng[0]? = some a) (hva : Vis sg a)
    (hG : GivesE X Ng x sg g cdv bg a (X.env.qual ++ "<lambda>") TT)
    (TB : LamX.TabB X.base X.mg c P) (hcode : X.env.code = .ref c) (hmT : (P, X.env.qual ++ "<lambda>") ∈ T) (hu : ∀ p ∈ T, p.1 = P → p.2 = X.env.qual ++ "<lambda>") (hr : Room (k + 2) X.A) (L : LamX.LamS X.env.scope scope) (hdef : defaultsOf params X.env = ([], []))
    (hbind : ∀ (q : Str) (cl : List (Str × Addr)) (pm cv ctv : Value), bindArgs (PySem.W.kla_fn "<lambda>" q params body scope cl pm cv ctv) ⟨[], []⟩ = pure [])
    (hbody : ∀ (A : Around) (outer : List Env) (s : Shared) (H : Hp) (E : XK) (f c' : Addr), Room k (A.deeper (LamX.lamEnv X scope s.heap.objs.size f c')) → PE (LamX.lamCx X A outer s H E scope f c') body (t E))
    (hdb : (x == ("__debug__" : Str)) = false := by decide) (hd : (a == ("__debug__" : Str)) = false := by decide) (hcd : (a == ("__classdict__" : Str)) = false := by decide) :
    PE X (.Call (.Name x p) [.Lambda params body scope lpos] [] pos) (LamX.tLam T TT t) :=
  ⟨fun pins s σ H Q I ⟨hT, h⟩ => wpAny_Call_Name_kw (ld_glob I hg hm (PySem.W.callWith_K (h₀ := X.base) I.ok.mod.kin hk
      (show wpAny _ _ (spliced ((false, eval (.Lambda params body scope lpos) X.env) :: backTo pos (starEach [] X.env))) _ _ s from Calls.spliced_cons (LamX.lam_make2 I TB hcode hmT hu hT hdef (L.has I.ok) fun f c' pm' ctv H1 s1 J eN T1 hf hfn hfr hco => Calls.spliced_nil ⟨J.kIn, by
        have run : codeAny (model X.prog X.w) X.A (.call (.ref g) ⟨[.ref f], []⟩) (CR CX0 X.stack X.prog X.w H1 s1 Q E0) s1 := by
          refine LamX.run_ofS (N := Ng) (ps := [a]) (us := [.ref f]) (vs := [.ref f]) lk hcg Sg hr J.env0 (hb s1 [.ref f] J.kIn rfl) (.cons rfl .nil) rfl fun hr' => ?_
          obtain ⟨t', g1, g2⟩ := hG f c' s1 H1 Q (fun E H' Q' => t E σ H' Q') (fun W pn xe E p1 p2 tk => pe_actE (i := 0) J L hf hfn hfr (hbind _ _ _ _ _) tk hr' (fun A outer s H hr2 => hbody A outer s H E f c' hr2) hNg hva hd hcd) hco (h H1 eN T1)
          exact ⟨t', g1.nox, g2⟩
        refine wpAny_call (codeAny_mono run fun r s2 z => ?_)
        rcases r with e | fl
        · exact (show False from z).elim
        · rcases fl with _ | _ | _ | u
          · exact False.elim z
          · exact False.elim z
          · exact False.elim z
          · exact J.after z⟩)) (by rfl) (by rfl)) hdb)⟩
end
end MB

set_option maxHeartbeats 4000000
namespace MB
open PySem PySem.Spec PyProof.Rows L2
theorem blT {c : Prop} [Decidable c] (h : c) : V.bl (decide c) = V.bl true := by rw [decide_eq_true h]
theorem blF {c : Prop} [Decidable c] (h : ¬ c) : V.bl (decide c) = V.bl false := by rw [decide_eq_false h]
theorem nblF {c : Prop} [Decidable c] (h : c) : V.bl (!decide c) = V.bl false := by rw [decide_eq_true h]; rfl
theorem nblT {c : Prop} [Decidable c] (h : ¬ c) : V.bl (!decide c) = V.bl true := by rw [decide_eq_false h]; rfl
theorem int_ne {i j : Int} (h : i ≠ j) : ¬ V.int i = V.int j := fun e => h (by injection e)
theorem dp_bls_inv {K : PySem.W.Frag} {H : Hp} : ∀ {ns : List Bool} {vs : List V}, DpAll K H vs (ns.map PyData.bool) → vs = ns.map V.bl
  | [], _, .nil => rfl
  | n :: ns, _, .cons a b => by
    cases a
    rw [dp_bls_inv b]
    rfl
/-- a comprehension whose items are truth values -/
theorem lc_bools {K : PySem.W.Frag} {J : It} {n : Nat} {G : Hp → Prop} {Y : Nat → Hp → V → Hp → Prop} (w : Walk J n G Y) {g : TG} {tt : TT} {te : TE} {vs : List Nat} {σ : L2.St} {H1 : Hp} {D : Addr} {Qd : Hp → Prop}
    (bs : List Bool) (hl : bs.length = n) (hn : n ≤ 1000) (hD : H1 D = none) (hG : ∀ H, Same H1 H → G H)
    (hs : ∀ i x H H', i < n → Same H1 H → Y i H x H' → ∀ b, bs[i]? = some b → ∀ R : V → Hp → Prop, (∀ H4, Same H H4 → R (.bl b) H4) →
      g x (wipe σ vs) H' fun σ2 H2 => wipe σ2 vs = wipe σ vs ∧ tt σ2 H2 fun b H3 => b = true ∧ te σ2 H3 R)
    (hd : ∀ H, Same H1 H → H D = some (.lst (bs.map V.bl)) → Qd H)
    (mg : ∀ x σ' H' (Q Q' : L2.St → Hp → Prop), (∀ a b, Q a b → Q' a b) → g x σ' H' Q → g x σ' H' Q') (mt : ∀ σ' H' (Q Q' : Bool → Hp → Prop), (∀ a b, Q a b → Q' a b) → tt σ' H' Q → tt σ' H' Q') :
    ∃ W : Nat → Nat → Hp → Prop, (∃ m, W 0 m (upd H1 D (.lst []))) ∧ ∀ i m H, W i m H →
      (J.stop i H ∧ Qd H) ∨ (J.go i H ∧ ∃ Nx : Hp → Prop, (∀ H', Nx H' → ∃ m', m' < m ∧ W (i + 1) m' H') ∧ ∀ x H', J.yld i H x H' → g x (wipe σ vs) H' fun σ2 H2 => wipe σ2 vs = wipe σ vs ∧ tt σ2 H2 fun b H3 =>
        if b = true then te σ2 H3 fun y H4 => ∃ acc, H4 D = some (.lst acc) ∧ acc.length < sizeLine ∧ Nx (upd H4 D (.lst (acc ++ [y]))) else Nx H3) := by
  refine lc_all (K := K) w (bs.map PyData.bool) (by rw [List.length_map, hl]) (fun d h => ?_) hn hD hG ?_ ?_ mg mt
  · obtain ⟨b, _, rfl⟩ := List.mem_map.mp h
    exact .bl b
  · intro i x H H' hi s y d hd' R hR
    rw [List.getElem?_map] at hd'
    cases e : bs[i]? with
    | none => rw [e] at hd'; cases hd'
    | some b =>
      rw [e] at hd'
      cases hd'
      exact hs i x H H' hi s y b e R fun H4 s4 => hR _ _ s4 (.bl b)
  · intro H acc s ha hA
    rw [dp_bls_inv hA] at ha
    exact hd H s ha
/-- a comprehension whose items are numbers -/
theorem lc_ints {K : PySem.W.Frag} {J : It} {n : Nat} {G : Hp → Prop} {Y : Nat → Hp → V → Hp → Prop} (w : Walk J n G Y) {g : TG} {tt : TT} {te : TE} {vs : List Nat} {σ : L2.St} {H1 : Hp} {D : Addr} {Qd : Hp → Prop}
    (bs : List Int) (hl : bs.length = n) (hn : n ≤ 1000) (hD : H1 D = none) (hG : ∀ H, Same H1 H → G H)
    (hs : ∀ i x H H', i < n → Same H1 H → Y i H x H' → ∀ b, bs[i]? = some b → ∀ R : V → Hp → Prop, (∀ H4, Same H H4 → R (.int b) H4) →
      g x (wipe σ vs) H' fun σ2 H2 => wipe σ2 vs = wipe σ vs ∧ tt σ2 H2 fun b H3 => b = true ∧ te σ2 H3 R)
    (hd : ∀ H, Same H1 H → H D = some (.lst (bs.map V.int)) → Qd H)
    (mg : ∀ x σ' H' (Q Q' : L2.St → Hp → Prop), (∀ a b, Q a b → Q' a b) → g x σ' H' Q → g x σ' H' Q') (mt : ∀ σ' H' (Q Q' : Bool → Hp → Prop), (∀ a b, Q a b → Q' a b) → tt σ' H' Q → tt σ' H' Q') :
    ∃ W : Nat → Nat → Hp → Prop, (∃ m, W 0 m (upd H1 D (.lst []))) ∧ ∀ i m H, W i m H →
      (J.stop i H ∧ Qd H) ∨ (J.go i H ∧ ∃ Nx : Hp → Prop, (∀ H', Nx H' → ∃ m', m' < m ∧ W (i + 1) m' H') ∧ ∀ x H', J.yld i H x H' → g x (wipe σ vs) H' fun σ2 H2 => wipe σ2 vs = wipe σ vs ∧ tt σ2 H2 fun b H3 =>
        if b = true then te σ2 H3 fun y H4 => ∃ acc, H4 D = some (.lst acc) ∧ acc.length < sizeLine ∧ Nx (upd H4 D (.lst (acc ++ [y]))) else Nx H3) := by
  refine lc_all (K := K) w (bs.map PyData.int) (by rw [List.length_map, hl]) (tf_ints _) hn hD hG ?_ ?_ mg mt
  · intro i x H H' hi s y d hd' R hR
    rw [List.getElem?_map] at hd'
    cases e : bs[i]? with
    | none => rw [e] at hd'; cases hd'
    | some b =>
      rw [e] at hd'
      cases hd'
      exact hs i x H H' hi s y b e R fun H4 s4 => hR _ _ s4 (.int b)
  · intro H acc s ha hA
    rw [dp_ints_inv hA] at ha
    exact hd H s ha
theorem k_pgTN {X : Cx} {K : PySem.W.Frag} {x y z : Str} {px py pz p1 : Pos} {k k1 : Nat} {pos : Pos} {t1 t2 : TG} (hK : X.K = K) (hc : X.calm = true) (h1 : PG X (.Tuple [.Name x px, .Name y py] k1 p1) t1) (h2 : PG X (.Name z pz) t2) : PG X (.Tuple [.Tuple [.Name x px, .Name y py] k1 p1, .Name z pz] k pos) (gTup K 2 (gCons t1 (gCons t2 gNil))) := by
  subst hK
  exact pg_tup hc (pgs_cons h1 (pgs_cons h2 pgs_nil))
theorem mono_pair2 {K : PySem.W.Frag} {n n' i j l : Nat} (x : V) (σ' : L2.St) (H' : Hp) (Q Q' : L2.St → Hp → Prop) (h : ∀ a b, Q a b → Q' a b) (e : gTup K n (gCons (gTup K n' (gCons (gName i) (gCons (gName j) gNil))) (gCons (gName l) gNil)) x σ' H' Q) : gTup K n (gCons (gTup K n' (gCons (gName i) (gCons (gName j) gNil))) (gCons (gName l) gNil)) x σ' H' Q' := by
  obtain ⟨a, xs, e1, e2, e3, v, r, e4, b, ys, f1, f2, f3, v1, r1, f4, v2, r2, f5, f6, v', r', e5, e6, q⟩ := e
  exact ⟨a, xs, e1, e2, e3, v, r, e4, b, ys, f1, f2, f3, v1, r1, f4, v2, r2, f5, f6, v', r', e5, e6, h _ _ q⟩
theorem ci_sum : ∀ p : List Nat, (ci p).sum = ((p.sum : Nat) : Int)
  | [] => rfl
  | x :: p => by
    have := ci_sum p
    simp only [ci, List.map_cons, List.sum_cons, Int.natCast_add] at this ⊢
    rw [this]
theorem cutV_to {p : List Nat} {m : Nat} (h : m ≤ p.length) : cutV (vi p) none (some (m : Int)) = vi (p.take m) := by
  rw [cut_to (by rw [vi_len]; exact h)]; simp [vi, List.map_take]
theorem cutV_from {p : List Nat} {m : Nat} (h : m ≤ p.length) : cutV (vi p) (some (m : Int)) none = vi (p.drop m) := by
  rw [cut_from (by rw [vi_len]; exact h)]; simp [vi, List.map_drop]
theorem cut_drop {p : List Nat} {m : Nat} (h : m ≤ p.length) : cutV (vi p) (some (m : Int)) none = (ci (p.drop m)).map V.int := by
  rw [cutV_from h, vi_ci]
theorem isi_int {K : PySem.W.Frag} {H : Hp} {i : Int} {Q : VK} (q : Q (.bl true) H) : rIsi K [.int i, .ty "int"] H Q :=
  ⟨.int i, .ty "int", .type "int", .type "int", true, rfl, .ty _, .base (.int i), kit_ty (by decide +kernel), q⟩
theorem isi_bool {K : PySem.W.Frag} {H : Hp} {i : Int} {Q : VK} (q : Q (.bl false) H) : rIsi K [.int i, .ty "bool"] H Q :=
  ⟨.int i, .ty "bool", .type "int", .type "bool", false, rfl, .ty _, .base (.int i), kit_ty (by decide +kernel), q⟩
theorem nth3 {n : Nat} (x : List V) (h : x.length = n) (i : Nat) (hi : i < (if (if (x.length : Int) < 3 then (x.length : Int) else 3) > 1 then (if (x.length : Int) < 3 then (x.length : Int) else 3) else 1 : Int).toNat) : i ≤ 62 := by
  have : (if (if (x.length : Int) < 3 then (x.length : Int) else 3) > 1 then (if (x.length : Int) < 3 then (x.length : Int) else 3) else 1) ≤ 3 := by split <;> split <;> omega
  omega
end MB

set_option maxHeartbeats 4000000
namespace MB
/-! ### binomial coefficients -/
def bin : Nat → Nat → Nat
  | _, 0 => 1
  | 0, _ + 1 => 0
  | n + 1, k + 1 => bin n k + bin n (k + 1)
theorem bin_zero (n : Nat) : bin n 0 = 1 := by cases n <;> rfl
theorem bin_succ (n k : Nat) : bin (n + 1) (k + 1) = bin n k + bin n (k + 1) := rfl
theorem bin_lt : ∀ {n k : Nat}, n < k → bin n k = 0
  | 0, k + 1, _ => rfl
  | n + 1, k + 1, h => by rw [bin_succ, bin_lt (n := n) (by omega), bin_lt (n := n) (by omega)]
theorem bin_self : ∀ n : Nat, bin n n = 1
  | 0 => rfl
  | n + 1 => by rw [bin_succ, bin_self n, bin_lt (by omega)]
theorem bin_one : ∀ n : Nat, bin n 1 = n
  | 0 => rfl
  | n + 1 => by rw [bin_succ, bin_zero, bin_one n]; omega
theorem bin_pos : ∀ {n k : Nat}, k ≤ n → 0 < bin n k
  | n, 0, _ => by rw [bin_zero]; decide
  | n + 1, k + 1, h => by rw [bin_succ]; have := bin_pos (n := n) (k := k) (by omega); omega
theorem bin_mul : ∀ n k : Nat, bin (n + 1) (k + 1) * (k + 1) = (n + 1) * bin n k
  | 0, 0 => by decide
  | 0, k + 1 => by simp [bin]
  | n + 1, 0 => by rw [bin_one, bin_zero]
  | n + 1, k + 1 => by
    have h1 := bin_mul n k
    have h2 := bin_mul n (k + 1)
    rw [bin_succ (n + 1) (k + 1), Nat.add_mul, h2]
    have e1 : bin (n + 1) (k + 1) * (k + 1 + 1) = bin (n + 1) (k + 1) * (k + 1) + bin (n + 1) (k + 1) := by rw [Nat.mul_add, Nat.mul_one]
    rw [e1, h1, bin_succ n k]
    grind
/-- the next one in a row -/
theorem bin_step {n j : Nat} (h : j ≤ n) : bin n (j + 1) * (j + 1) = bin n j * (n - j) := by
  have h1 := bin_mul n j
  rw [bin_succ, Nat.add_mul] at h1
  have e : (n + 1) * bin n j = bin n j * (n - j) + bin n j * (j + 1) := by rw [← Nat.mul_add, Nat.mul_comm]; congr 1; omega
  omega
theorem bin_div {n j : Nat} (h : j ≤ n) : bin n j * (n - j) / (j + 1) = bin n (j + 1) := by
  rw [← bin_step h, Nat.mul_div_cancel _ (by omega)]
theorem bin_sym : ∀ a b : Nat, bin (a + b) a = bin (a + b) b
  | 0, b => by rw [Nat.zero_add, bin_zero, bin_self]
  | a + 1, 0 => by rw [Nat.add_zero, bin_zero, bin_self]
  | a + 1, b + 1 => by
    have e : a + 1 + (b + 1) = (a + b + 1) + 1 := by omega
    rw [e, bin_succ (a + b + 1) a, bin_succ (a + b + 1) b]
    have h1 := bin_sym a (b + 1)
    have h2 := bin_sym (a + 1) b
    have e1 : a + (b + 1) = a + b + 1 := by omega
    have e2 : a + 1 + b = a + b + 1 := by omega
    rw [e1] at h1; rw [e2] at h2
    omega
theorem bin_sub {n k : Nat} (h : k ≤ n) : bin n (n - k) = bin n k := by
  have := bin_sym k (n - k)
  rw [show k + (n - k) = n by omega] at this
  exact this.symm
theorem bin_min {n k : Nat} (h : k ≤ n) : bin n (min k (n - k)) = bin n k := by
  by_cases c : k ≤ n - k
  · rw [Nat.min_eq_left c]
  · rw [Nat.min_eq_right (by omega), bin_sub h]
theorem bin_mono1 : ∀ n k : Nat, bin n k ≤ bin (n + 1) k
  | n, 0 => by rw [bin_zero, bin_zero]; exact Nat.le_refl _
  | n, k + 1 => by rw [bin_succ]; omega
theorem bin_mono {n m : Nat} (k : Nat) (h : n ≤ m) : bin n k ≤ bin m k := by
  induction h with
  | refl => exact Nat.le_refl _
  | step _ ih => exact Nat.le_trans ih (bin_mono1 _ _)
theorem bin_strict1 {n k : Nat} (h : k ≤ n + 1) : bin n (k + 1) < bin (n + 1) (k + 1) ∨ n < k := by
  by_cases c : n < k
  · exact .inr c
  · refine .inl ?_
    rw [bin_succ]
    have := bin_pos (n := n) (k := k) (by omega)
    omega
theorem bin_strict {n m k : Nat} (hk : 1 ≤ k) (hn : k ≤ n + 1) (h : n < m) : bin n k < bin m k := by
  have h1 : bin n k < bin (n + 1) k := by
    obtain ⟨j, rfl⟩ : ∃ j, k = j + 1 := ⟨k - 1, by omega⟩
    rw [bin_succ]
    have := bin_pos (n := n) (k := j) (by omega)
    omega
  exact Nat.lt_of_lt_of_le h1 (bin_mono k h)
theorem bin_pow : ∀ n k : Nat, bin n k ≤ (n + 1) ^ k
  | n, 0 => by rw [bin_zero]; simp
  | 0, k + 1 => by rw [bin_lt (by omega)]; exact Nat.zero_le _
  | n + 1, k + 1 => by
    have h := bin_mul n k
    have h1 : bin (n + 1) (k + 1) ≤ bin (n + 1) (k + 1) * (k + 1) := Nat.le_mul_of_pos_right _ (by omega)
    have h2 := bin_pow n k
    have h3 : (n + 1) ^ k ≤ (n + 1 + 1) ^ k := Nat.pow_le_pow_left (by omega) _
    have h4 : (n + 1) * bin n k ≤ (n + 1 + 1) * (n + 1 + 1) ^ k := Nat.mul_le_mul (by omega) (Nat.le_trans h2 h3)
    have h5 : (n + 1 + 1) ^ (k + 1) = (n + 1 + 1) * (n + 1 + 1) ^ k := by rw [Nat.pow_succ, Nat.mul_comm]
    omega
theorem bin_bits {n k : Nat} (hn : n < 2 ^ 64) (hk : k ≤ 64) : bin n k < 2 ^ 4097 := by
  have h1 := bin_pow n k
  have h2 : (n + 1) ^ k ≤ (2 ^ 64) ^ k := Nat.pow_le_pow_left (by omega) _
  have h3 : (2 ^ 64) ^ k ≤ (2 ^ 64 : Nat) ^ 64 := Nat.pow_le_pow_right (by decide) hk
  have h4 : ((2 ^ 64 : Nat) ^ 64) < 2 ^ 4097 := by decide +kernel
  omega
theorem bin_big {k c : Nat} (hk : 1 ≤ k) : c + 1 ≤ bin (k + c) k := by
  induction c with
  | zero => show 1 ≤ bin k k; rw [bin_self]; exact Nat.le_refl _
  | succ c ih =>
    have := bin_strict (n := k + c) (m := k + (c + 1)) (k := k) hk (by omega) (by omega)
    omega
/-- c is the least with n < C(k + c, k) -/
def Lw (k n c : Nat) : Prop := n < bin (k + c) k ∧ ∀ d, d < c → bin (k + d) k ≤ n
theorem Lw.uniq {k n c d : Nat} (a : Lw k n c) (b : Lw k n d) : c = d := by
  rcases Nat.lt_trichotomy c d with h | h | h
  · have := b.2 c h; have := a.1; omega
  · exact h
  · have := a.2 d h; have := b.1; omega
theorem Lw.mk' {k n c : Nat} (h : n < bin (k + c) k) (h' : c = 0 ∨ bin (k + (c - 1)) k ≤ n) : Lw k n c := by
  refine ⟨h, fun d hd => ?_⟩
  rcases h' with e | e
  · omega
  · exact Nat.le_trans (bin_mono k (by omega)) e
def lwGo (k n : Nat) : Nat → Nat → Nat
  | 0, c => c
  | f + 1, c => if n < bin (k + c) k then c else lwGo k n f (c + 1)
def lwr (k n : Nat) : Nat := lwGo k n (n + 1) 0
theorem lwGo_ok {k n : Nat} (hk : 1 ≤ k) : ∀ f c, (∀ d, d < c → bin (k + d) k ≤ n) → n < f + c → Lw k n (lwGo k n f c)
  | 0, c, h, hf => ⟨by have := bin_big (k := k) (c := c) hk; unfold lwGo; omega, h⟩
  | f + 1, c, h, hf => by
    unfold lwGo
    by_cases hc : n < bin (k + c) k
    · rw [if_pos hc]; exact ⟨hc, h⟩
    · rw [if_neg hc]
      refine lwGo_ok hk f (c + 1) (fun d hd => ?_) (by omega)
      by_cases e : d < c
      · exact h d e
      · have : d = c := by omega
        subst this; omega
theorem lw_ok {k : Nat} (n : Nat) (hk : 1 ≤ k) : Lw k n (lwr k n) := lwGo_ok hk _ _ (fun _ h => absurd h (by omega)) (by omega)
theorem lwr_le {k n : Nat} (hk : 1 ≤ k) : lwr k n ≤ n := by
  have h := (lw_ok n hk).2
  by_cases c : lwr k n ≤ n
  · exact c
  · have h1 := h n (by omega)
    have := bin_big (k := k) (c := n) hk
    omega
end MB

set_option maxHeartbeats 4000000
namespace MB
/-- the terms above 0 of the representation of n with k terms -/
def rl : Nat → Nat → List Nat
  | 0, _ => []
  | k + 1, n => if n = 0 then [] else bin (k + lwr (k + 1) n) (k + 1) :: rl k (n - bin (k + lwr (k + 1) n) (k + 1))
theorem rl_zero (k : Nat) : rl k 0 = [] := by cases k <;> simp [rl]
theorem rl_succ {k n : Nat} (h : n ≠ 0) : rl (k + 1) n = bin (k + lwr (k + 1) n) (k + 1) :: rl k (n - bin (k + lwr (k + 1) n) (k + 1)) := by simp [rl, h]
theorem lw_pos {k n : Nat} (hk : 1 ≤ k) (hn : n ≠ 0) : 1 ≤ lwr k n := by
  have h := (lw_ok n hk).1
  by_cases c : lwr k n = 0
  · rw [c] at h
    have : bin (k + 0) k = 1 := bin_self k
    omega
  · omega
theorem top_le {k n : Nat} (hn : n ≠ 0) : bin (k + lwr (k + 1) n) (k + 1) ≤ n := by
  have h1 := lw_pos (k := k + 1) (by omega) hn
  have h2 := (lw_ok (k := k + 1) n (by omega)).2 (lwr (k + 1) n - 1) (by omega)
  rwa [show k + 1 + (lwr (k + 1) n - 1) = k + lwr (k + 1) n by omega] at h2
theorem top_pos {k n : Nat} (hn : n ≠ 0) : 0 < bin (k + lwr (k + 1) n) (k + 1) :=
  bin_pos (by have := lw_pos (k := k + 1) (by omega) hn; omega)
theorem rest_lt {k n : Nat} (hn : n ≠ 0) : n - bin (k + lwr (k + 1) n) (k + 1) < bin (k + lwr (k + 1) n) k := by
  have h1 := (lw_ok (k := k + 1) n (by omega)).1
  have h2 := top_le (k := k) hn
  rw [show k + 1 + lwr (k + 1) n = (k + lwr (k + 1) n) + 1 by omega, bin_succ] at h1
  omega
theorem rest_zero {n : Nat} (hn : n ≠ 0) : n - bin (0 + lwr (0 + 1) n) (0 + 1) = 0 := by
  have := rest_lt (k := 0) hn
  rw [bin_zero] at this
  omega
theorem rl_sum : ∀ k n : Nat, (k = 0 → n = 0) → (rl k n).sum = n
  | 0, n, h => by rw [h rfl]; rfl
  | k + 1, n, _ => by
    by_cases hn : n = 0
    · subst hn; rw [rl_zero]; rfl
    · rw [rl_succ hn, List.sum_cons, rl_sum k _ (fun e => by subst e; exact rest_zero hn)]
      have := top_le (k := k) hn
      omega
theorem rl_len : ∀ k n : Nat, (rl k n).length ≤ k
  | 0, n => by simp [rl]
  | k + 1, n => by
    by_cases hn : n = 0
    · subst hn; rw [rl_zero]; simp
    · rw [rl_succ hn, List.length_cons]
      have := rl_len k (n - bin (k + lwr (k + 1) n) (k + 1))
      omega
theorem rl_pos : ∀ k n : Nat, ∀ x, x ∈ rl k n → 0 < x ∧ x ≤ n
  | 0, n, x, h => by simp [rl] at h
  | k + 1, n, x, h => by
    by_cases hn : n = 0
    · subst hn; rw [rl_zero] at h; cases h
    · rw [rl_succ hn] at h
      rcases List.mem_cons.mp h with h | h
      · rw [h]; exact ⟨top_pos hn, top_le hn⟩
      · have := rl_pos k _ x h
        omega
/-- the last flush's run holds what was merged and its own -/
theorem rl_step : ∀ k n : Nat, ∃ m, m ≤ (rl (k + 1) n).length ∧ rl (k + 1) (n + 1) = (rl (k + 1) n).take m ++ [1 + ((rl (k + 1) n).drop m).sum]
  | k, n => by
    by_cases hn : n = 0
    · subst hn
      refine ⟨0, Nat.zero_le _, ?_⟩
      rw [rl_zero, rl_succ (by omega)]
      have e : lwr (k + 1) (0 + 1) = 1 := (lw_ok (0 + 1) (by omega)).uniq (Lw.mk' (by
        have := bin_big (k := k + 1) (c := 1) (by omega); omega) (.inr (by rw [show k + 1 + (1 - 1) = k + 1 by omega, bin_self]; exact Nat.le_refl _)))
      rw [e, bin_self, show 0 + 1 - 1 = 0 by omega, rl_zero]
      rfl
    · have hc := lw_ok (k := k + 1) n (by omega)
      by_cases hlt : n + 1 < bin (k + 1 + lwr (k + 1) n) (k + 1)
      · have e : lwr (k + 1) (n + 1) = lwr (k + 1) n := (lw_ok (n + 1) (by omega)).uniq ⟨hlt, fun d hd => Nat.le_succ_of_le (hc.2 d hd)⟩
        cases k with
        | zero =>
          exfalso
          have h1 := rest_zero hn
          rw [bin_one] at h1 hlt
          have h2 := top_le (k := 0) hn
          rw [bin_one] at h2
          omega
        | succ k =>
          have hT := top_le (k := k + 1) hn
          obtain ⟨m, hm, hs⟩ := rl_step k (n - bin (k + 1 + lwr (k + 1 + 1) n) (k + 1 + 1))
          refine ⟨m + 1, ?_, ?_⟩
          · rw [rl_succ hn, List.length_cons]; omega
          · rw [rl_succ (n := n + 1) (by omega), e, rl_succ hn, show n + 1 - bin (k + 1 + lwr (k + 1 + 1) n) (k + 1 + 1) = n - bin (k + 1 + lwr (k + 1 + 1) n) (k + 1 + 1) + 1 by omega, hs]
            simp
      · have e0 : n + 1 = bin (k + 1 + lwr (k + 1) n) (k + 1) := by have := hc.1; omega
        have e : lwr (k + 1) (n + 1) = lwr (k + 1) n + 1 := (lw_ok (n + 1) (by omega)).uniq (Lw.mk' (by
          rw [e0]; exact bin_strict (by omega) (by omega) (by omega)) (.inr (by rw [show lwr (k + 1) n + 1 - 1 = lwr (k + 1) n by omega]; omega)))
        refine ⟨0, Nat.zero_le _, ?_⟩
        rw [rl_succ (n := n + 1) (by omega), e, show k + (lwr (k + 1) n + 1) = k + 1 + lwr (k + 1) n by omega, ← e0, Nat.sub_self, rl_zero]
        have := rl_sum (k + 1) n (fun h => by omega)
        simp [this]
        omega
/-- just behind a lifetime there is one run -/
theorem rl_edge {k c : Nat} (hk : 1 ≤ k) : rl k (bin (k + c) k) = [bin (k + c) k] := by
  obtain ⟨j, rfl⟩ : ∃ j, k = j + 1 := ⟨k - 1, by omega⟩
  have hp := bin_pos (n := j + 1 + c) (k := j + 1) (by omega)
  have e : lwr (j + 1) (bin (j + 1 + c) (j + 1)) = c + 1 := (lw_ok _ (by omega)).uniq (Lw.mk' (bin_strict (by omega) (by omega) (by omega)) (.inr (by rw [show c + 1 - 1 = c by omega]; exact Nat.le_refl _)))
  rw [rl_succ (by omega), e, show j + (c + 1) = j + 1 + c by omega, Nat.sub_self, rl_zero]
/-- each term is a binomial coefficient, with falling upper numbers -/
theorem rl_tops : ∀ k n a : Nat, n < bin a k → ∃ ts : List Nat, ts.length = (rl k n).length ∧ (∀ i t, ts[i]? = some t → (rl k n)[i]? = some (bin t (k - i)) ∧ k - i ≤ t ∧ 1 ≤ k - i ∧ t < a) ∧ ∀ i t u, ts[i]? = some t → ts[i + 1]? = some u → u < t
  | 0, n, a, h => ⟨[], by simp [rl], by simp, by simp⟩
  | k + 1, n, a, h => by
    by_cases hn : n = 0
    · subst hn; exact ⟨[], by rw [rl_zero], by simp, by simp⟩
    · have h1 := lw_pos (k := k + 1) (by omega) hn
      have hlt : k + lwr (k + 1) n < a := by
        have h2 := top_le (k := k) hn
        by_cases c : k + lwr (k + 1) n < a
        · exact c
        · have := bin_mono (n := a) (m := k + lwr (k + 1) n) (k + 1) (by omega); omega
      obtain ⟨ts, e1, e2, e3⟩ := rl_tops k (n - bin (k + lwr (k + 1) n) (k + 1)) (k + lwr (k + 1) n) (rest_lt hn)
      refine ⟨(k + lwr (k + 1) n) :: ts, by rw [rl_succ hn]; simp [e1], ?_, ?_⟩
      · intro i t ht
        cases i with
        | zero =>
          simp only [List.getElem?_cons_zero, Option.some.injEq] at ht
          subst ht
          refine ⟨by rw [rl_succ hn]; rfl, by omega, by omega, hlt⟩
        | succ i =>
          simp only [List.getElem?_cons_succ] at ht
          obtain ⟨g1, g2, g3, g4⟩ := e2 i t ht
          refine ⟨by rw [rl_succ hn, List.getElem?_cons_succ, show k + 1 - (i + 1) = k - i by omega]; exact g1, by omega, by omega, by omega⟩
      · intro i t u ht hu
        cases i with
        | zero =>
          simp only [List.getElem?_cons_zero, Option.some.injEq] at ht
          simp only [List.getElem?_cons_succ] at hu
          subst ht
          exact (e2 0 u hu).2.2.2
        | succ i =>
          simp only [List.getElem?_cons_succ] at ht hu
          exact e3 i t u ht hu
end MB

set_option maxHeartbeats 4000000
namespace MB
/-! ### states: the greatest of the newer runs, what is left -/
def mx : List Nat → Nat
  | [] => 0
  | x :: xs => max x (mx xs)
theorem mx_cons (x : Nat) (xs : List Nat) : mx (x :: xs) = max x (mx xs) := rfl
theorem mx_fold : ∀ (xs : List Nat) (x : Nat), (xs.map (fun (m : Nat) => (m : Int))).foldl max (x : Int) = ((mx (x :: xs) : Nat) : Int)
  | [], x => by simp [mx]
  | y :: ys, x => by
    rw [List.map_cons, List.foldl_cons, show max (x : Int) (y : Int) = ((max x y : Nat) : Int) by omega, mx_fold ys (max x y)]
    simp only [mx]
    omega
theorem mx_le {c : Nat} : ∀ {xs : List Nat}, (∀ x, x ∈ xs → x ≤ c) → mx xs ≤ c
  | [], _ => Nat.zero_le _
  | x :: xs, h => by
    have h1 := h x (List.mem_cons_self ..)
    have h2 := mx_le (c := c) (xs := xs) fun y hy => h y (List.mem_cons_of_mem _ hy)
    rw [mx_cons]; omega
theorem mx_mem {x : Nat} : ∀ {xs : List Nat}, x ∈ xs → x ≤ mx xs
  | y :: ys, h => by
    rw [mx_cons]
    rcases List.mem_cons.mp h with h | h
    · subst h; omega
    · have := mx_mem h; omega
/-- a state within (k, c) -/
def Sta (k c : Nat) (st : List Nat) : Prop := st.length ≤ k ∧ ∀ x, x ∈ st → 1 ≤ x ∧ x ≤ c
theorem Sta.tail {k c x : Nat} {xs : List Nat} (h : Sta k c (x :: xs)) : Sta (k - 1) (mx (x :: xs)) xs :=
  ⟨by have := h.1; rw [List.length_cons] at this; omega, fun y hy => ⟨(h.2 y (List.mem_cons_of_mem _ hy)).1, by have := mx_mem hy; rw [mx_cons]; omega⟩⟩
theorem Sta.mx_le {k c : Nat} {st : List Nat} (h : Sta k c st) : mx st ≤ c := MB.mx_le fun x hx => (h.2 x hx).2
theorem Sta.mx_pos {k c x : Nat} {xs : List Nat} (h : Sta k c (x :: xs)) : 1 ≤ mx (x :: xs) := by
  have := (h.2 x (List.mem_cons_self ..)).1
  rw [mx_cons]; omega
theorem Sta.mono {k c k' c' : Nat} {st : List Nat} (h : Sta k c st) (h1 : k ≤ k') (h2 : c ≤ c') : Sta k' c' st :=
  ⟨by have := h.1; omega, fun x hx => ⟨(h.2 x hx).1, by have := (h.2 x hx).2; omega⟩⟩
/-- as the program adds it up -/
def remv : Nat → Nat → List Nat → Int
  | k, c, [] => (bin (k + c) k : Int) - 1
  | k, c, x :: xs => ((bin (k + c) k : Int) - (bin (k + mx (x :: xs)) k : Int)) + remv (k - 1) (mx (x :: xs)) xs
/-- what each run takes off -/
def brd : Nat → List Nat → Nat
  | _, [] => 0
  | k, x :: xs => bin (k + mx (x :: xs) - 1) k + brd (k - 1) xs
theorem pascal {k m : Nat} (hk : 1 ≤ k) (hm : 1 ≤ m) : bin (k + m) k = bin (k - 1 + m) (k - 1) + bin (k + m - 1) k := by
  obtain ⟨j, rfl⟩ : ∃ j, k = j + 1 := ⟨k - 1, by omega⟩
  rw [show j + 1 + m = (j + m) + 1 by omega, bin_succ, show j + 1 - 1 + m = j + m by omega, show j + 1 - 1 = j by omega, show j + m + 1 - 1 = j + m by omega]
theorem remv_brd : ∀ {k c : Nat} {st : List Nat}, Sta k c st → remv k c st = (bin (k + c) k : Int) - 1 - (brd k st : Int)
  | k, c, [], _ => by simp [remv, brd]
  | k, c, x :: xs, h => by
    have h1 := remv_brd h.tail
    have hk : 1 ≤ k := by have := h.1; rw [List.length_cons] at this; omega
    have hp := pascal hk h.mx_pos
    simp only [remv, brd]
    rw [h1]
    omega
theorem brd_le : ∀ {k c : Nat} {st : List Nat}, Sta k c st → brd k st + 1 ≤ bin (k + c) k
  | k, c, [], _ => by have := bin_pos (n := k + c) (k := k) (by omega); simp [brd]; omega
  | k, c, x :: xs, h => by
    have h1 := brd_le h.tail
    have hk : 1 ≤ k := by have := h.1; rw [List.length_cons] at this; omega
    have hp := pascal hk h.mx_pos
    have hm := bin_mono (n := k + mx (x :: xs)) (m := k + c) k (by have := h.mx_le; omega)
    simp only [brd]
    omega
theorem brd_room : ∀ {k c : Nat} {st : List Nat}, Sta k c st → 1 ≤ c → brd (k + 1) st + 1 ≤ brd k st + bin (k + c) (k + 1)
  | k, c, [], _, hc => by have := bin_pos (n := k + c) (k := k + 1) (by omega); simp [brd]; omega
  | k, c, x :: xs, h, hc => by
    have hk : 1 ≤ k := by have := h.1; rw [List.length_cons] at this; omega
    have h1 := brd_room h.tail h.mx_pos
    obtain ⟨j, rfl⟩ : ∃ j, k = j + 1 := ⟨k - 1, by omega⟩
    have hp := h.mx_pos
    have hm := bin_mono (n := j + 1 + mx (x :: xs)) (m := j + 1 + c) (j + 1 + 1) (by have := h.mx_le; omega)
    simp only [brd]
    rw [show j + 1 + 1 - 1 = j + 1 by omega, show j + 1 - 1 = j by omega] at *
    generalize mx (x :: xs) = M at *
    obtain ⟨m, rfl⟩ : ∃ m, M = m + 1 := ⟨M - 1, by omega⟩
    have e1 : bin (j + 1 + 1 + (m + 1) - 1) (j + 1 + 1) = bin (j + (m + 1)) (j + 1) + bin (j + 1 + m) (j + 1 + 1) := by
      rw [show j + 1 + 1 + (m + 1) - 1 = (j + m + 1) + 1 by omega, bin_succ, show j + m + 1 = j + (m + 1) by omega, show j + 1 + m = j + (m + 1) by omega]
    have e2 : bin (j + 1 + (m + 1)) (j + 1 + 1) = bin (j + (m + 1)) (j + 1) + bin (j + 1 + m) (j + 1 + 1) := by
      rw [show j + 1 + (m + 1) = (j + (m + 1)) + 1 by omega, bin_succ, show j + 1 + m = j + (m + 1) by omega]
    rw [show j + 1 + (m + 1) - 1 = j + (m + 1) by omega]
    omega
/-- element by element at most -/
def Le2 : List Nat → List Nat → Prop
  | [], _ => True
  | _ :: _, [] => False
  | x :: xs, y :: ys => x ≤ y ∧ Le2 xs ys
theorem Le2.refl : ∀ xs : List Nat, Le2 xs xs
  | [] => trivial
  | _ :: xs => ⟨Nat.le_refl _, Le2.refl xs⟩
theorem Le2.mx : ∀ {xs ys : List Nat}, Le2 xs ys → mx xs ≤ mx ys
  | [], _, _ => Nat.zero_le _
  | _ :: _, _ :: _, h => by
    have := Le2.mx h.2
    have := h.1
    rw [mx_cons, mx_cons]; omega
theorem Le2.brd : ∀ {k : Nat} {xs ys : List Nat}, Le2 xs ys → brd k xs ≤ brd k ys
  | _, [], _, _ => Nat.zero_le _
  | k, x :: xs, y :: ys, h => by
    have h1 := Le2.brd (k := k - 1) h.2
    have h2 := Le2.mx (xs := x :: xs) (ys := y :: ys) h
    have h3 := bin_mono (n := k + MB.mx (x :: xs) - 1) (m := k + MB.mx (y :: ys) - 1) k (by omega)
    simp only [MB.brd]
    omega
theorem Le2.dropLast : ∀ xs : List Nat, Le2 xs.dropLast xs
  | [] => trivial
  | [_] => trivial
  | x :: y :: xs => ⟨Nat.le_refl _, Le2.dropLast (y :: xs)⟩
theorem Le2.set : ∀ {xs : List Nat} {i v x : Nat}, xs[i]? = some x → v ≤ x → Le2 (xs.set i v) xs
  | [], i, v, x, h, _ => by simp at h
  | y :: ys, 0, v, x, h, hv => by
    simp at h; subst h
    exact ⟨hv, Le2.refl _⟩
  | y :: ys, i + 1, v, x, h, hv => ⟨Nat.le_refl _, Le2.set (by simpa using h) hv⟩
theorem brd_tail : ∀ {k x : Nat} {xs : List Nat}, brd k xs ≤ brd k (x :: xs)
  | k, x, [] => Nat.zero_le _
  | k, x, y :: ys => by
    have h1 := brd_tail (k := k - 1) (x := y) (xs := ys)
    have h3 := bin_mono (n := k + mx (y :: ys) - 1) (m := k + mx (x :: y :: ys) - 1) k (by simp only [mx]; omega)
    show bin (k + mx (y :: ys) - 1) k + brd (k - 1) ys ≤ bin (k + mx (x :: y :: ys) - 1) k + brd (k - 1) (y :: ys)
    omega
end MB

set_option maxHeartbeats 4000000
namespace MB
/-- the state after a flush that merges m runs -/
def sa (st : List Nat) (m : Nat) : List Nat := st.take (st.length - m) ++ [1 + mx (st.drop (st.length - m))]
theorem mx_append : ∀ xs ys : List Nat, mx (xs ++ ys) = max (mx xs) (mx ys)
  | [], ys => by simp [mx]
  | x :: xs, ys => by rw [List.cons_append, mx_cons, mx_cons, mx_append xs ys]; omega
theorem sa_all (st : List Nat) : sa st st.length = [1 + mx st] := by simp [sa]
theorem sa_cons {x : Nat} {xs : List Nat} {m : Nat} (h : m ≤ xs.length) : sa (x :: xs) m = x :: sa xs m := by
  unfold sa
  rw [List.length_cons, show xs.length + 1 - m = (xs.length - m) + 1 by omega]
  simp
theorem sa_len {st : List Nat} {m : Nat} (h : m ≤ st.length) : (sa st m).length = st.length - m + 1 := by
  unfold sa
  rw [List.length_append, List.length_take]
  simp
theorem sa_mx {st : List Nat} {m : Nat} : mx st ≤ mx (sa st m) := by
  unfold sa
  rw [mx_append]
  have h := mx_append (st.take (st.length - m)) (st.drop (st.length - m))
  rw [List.take_append_drop] at h
  simp only [mx]
  omega
/-- elements from 1 on, as many as there is room for -/
def Pos (k : Nat) (st : List Nat) : Prop := st.length ≤ k ∧ ∀ x, x ∈ st → 1 ≤ x
theorem Sta.pos {k c : Nat} {st : List Nat} (h : Sta k c st) : Pos k st := ⟨h.1, fun x hx => (h.2 x hx).1⟩
theorem Pos.sta {k : Nat} {st : List Nat} (h : Pos k st) : Sta k (mx st) st := ⟨h.1, fun x hx => ⟨h.2 x hx, mx_mem hx⟩⟩
theorem Pos.tail {k x : Nat} {xs : List Nat} (h : Pos k (x :: xs)) : Pos (k - 1) xs ∧ 1 ≤ k ∧ 1 ≤ x :=
  ⟨⟨by have := h.1; rw [List.length_cons] at this; omega, fun y hy => h.2 y (List.mem_cons_of_mem _ hy)⟩, by have := h.1; rw [List.length_cons] at this; omega, h.2 x (List.mem_cons_self ..)⟩
theorem brd_one (k v : Nat) : brd k [1 + v] = bin (k + v) k := by
  simp only [brd, mx]
  rw [show k + max (1 + v) 0 - 1 = k + v by omega]; rfl
/-- every flush costs at least one -/
theorem brd_sa : ∀ {k : Nat} {st : List Nat} {m : Nat}, Pos k st → m ≤ st.length → brd k st + 1 ≤ brd k (sa st m)
  | k, [], m, h, hm => by
    have : m = 0 := by simpa using hm
    subst this
    show brd k [] + 1 ≤ brd k [1 + 0]
    rw [brd_one, show k + 0 = k by omega, bin_self]
    simp [brd]
  | k, x :: xs, m, h, hm => by
    by_cases e : m = xs.length + 1
    · subst e
      rw [show xs.length + 1 = (x :: xs).length from rfl, sa_all, brd_one]
      exact brd_le h.sta
    · have hm' : m ≤ xs.length := by rw [List.length_cons] at hm; omega
      obtain ⟨h1, hk, hx⟩ := h.tail
      have ih := brd_sa h1 hm'
      rw [sa_cons hm']
      have hm2 := sa_mx (st := xs) (m := m)
      have hb := bin_mono (n := k + mx (x :: xs) - 1) (m := k + mx (x :: sa xs m) - 1) k (by rw [mx_cons, mx_cons]; omega)
      simp only [brd]
      omega
/-- what stands before the merged runs is greater than they are; these are exhausted -/
def Tight (k : Nat) (st : List Nat) (j : Nat) : Prop := (j = 0 ∨ ∃ y, st[j - 1]? = some y ∧ mx (st.drop j) < y) ∧ brd (k - j) (st.drop j) + 1 = bin (k - j + mx (st.drop j)) (k - j)
theorem brd_sa_eq : ∀ {k : Nat} {st : List Nat} {m : Nat}, Pos k st → m ≤ st.length → (brd k (sa st m) = brd k st + 1 ↔ Tight k st (st.length - m))
  | k, [], m, h, hm => by
    have : m = 0 := by simpa using hm
    subst this
    have e1 : brd k (sa [] 0) = 1 := by
      show brd k [1 + 0] = 1
      rw [brd_one, show k + 0 = k by omega, bin_self]
    rw [e1]
    refine ⟨fun _ => ⟨.inl rfl, ?_⟩, fun _ => by simp [brd]⟩
    simp only [List.drop_nil, mx, brd, List.length_nil]
    rw [show k - (0 - 0) + 0 = k - (0 - 0) by omega, bin_self]
  | k, x :: xs, m, h, hm => by
    by_cases e : m = xs.length + 1
    · subst e
      rw [show xs.length + 1 = (x :: xs).length from rfl, sa_all, brd_one, Nat.sub_self]
      constructor
      · intro e
        refine ⟨.inl rfl, ?_⟩
        simp only [Nat.sub_zero, List.drop_zero]
        omega
      · rintro ⟨_, e⟩
        simp only [Nat.sub_zero, List.drop_zero] at e
        omega
    · have hm' : m ≤ xs.length := by rw [List.length_cons] at hm; omega
      obtain ⟨h1, hk, hx⟩ := h.tail
      have ih := brd_sa_eq h1 hm'
      have ih1 := brd_sa h1 hm'
      rw [sa_cons hm']
      have hm2 := sa_mx (st := xs) (m := m)
      have hb := bin_mono (n := k + mx (x :: xs) - 1) (m := k + mx (x :: sa xs m) - 1) k (by rw [mx_cons, mx_cons]; omega)
      have hJ : (x :: xs).length - m = (xs.length - m) + 1 := by rw [List.length_cons]; omega
      rw [hJ]
      have hd : (x :: xs).drop (xs.length - m + 1) = xs.drop (xs.length - m) := rfl
      have hkk : k - (xs.length - m + 1) = k - 1 - (xs.length - m) := by omega
      have e1 : brd k (x :: sa xs m) = bin (k + mx (x :: sa xs m) - 1) k + brd (k - 1) (sa xs m) := rfl
      have e2 : brd k (x :: xs) = bin (k + mx (x :: xs) - 1) k + brd (k - 1) xs := rfl
      have step : brd k (x :: sa xs m) = brd k (x :: xs) + 1 ↔ (mx (x :: sa xs m) = mx (x :: xs) ∧ brd (k - 1) (sa xs m) = brd (k - 1) xs + 1) := by
        constructor
        · intro e
          have hq : bin (k + mx (x :: sa xs m) - 1) k = bin (k + mx (x :: xs) - 1) k := by omega
          refine ⟨?_, by omega⟩
          by_cases c : mx (x :: sa xs m) = mx (x :: xs)
          · exact c
          · have h0 : 1 ≤ mx (x :: xs) := by rw [mx_cons]; omega
            have h00 : mx (x :: xs) < mx (x :: sa xs m) := by rw [mx_cons, mx_cons] at c ⊢; omega
            have := bin_strict (n := k + mx (x :: xs) - 1) (m := k + mx (x :: sa xs m) - 1) (k := k) hk (by omega) (by omega)
            omega
        · rintro ⟨c1, c2⟩
          rw [e1, e2, c1, c2]; omega
      rw [step, ih]
      unfold Tight
      rw [hd, hkk]
      have hdec : mx xs = max (mx (xs.take (xs.length - m))) (mx (xs.drop (xs.length - m))) := by
        rw [← mx_append, List.take_append_drop]
      have hsa : mx (sa xs m) = max (mx (xs.take (xs.length - m))) (1 + mx (xs.drop (xs.length - m))) := by
        unfold sa; rw [mx_append]; simp [mx]
      constructor
      · rintro ⟨c1, c2, c3⟩
        refine ⟨.inr ?_, c3⟩
        rcases c2 with c2 | ⟨y, y1, y2⟩
        · rw [c2] at hsa hdec ⊢
          simp only [List.take_zero, mx] at hsa hdec
          refine ⟨x, rfl, ?_⟩
          rw [mx_cons, mx_cons] at c1
          omega
        · by_cases z : xs.length - m = 0
          · rw [z] at hsa hdec ⊢
            simp only [List.take_zero, mx] at hsa hdec
            refine ⟨x, rfl, ?_⟩
            rw [mx_cons, mx_cons] at c1
            omega
          · refine ⟨y, ?_, y2⟩
            rw [show xs.length - m + 1 - 1 = (xs.length - m - 1) + 1 by omega, List.getElem?_cons_succ]
            exact y1
      · rintro ⟨c2, c3⟩
        rcases c2 with c2 | ⟨y, y1, y2⟩
        · omega
        · by_cases z : xs.length - m = 0
          · rw [z] at y1 y2 hsa hdec c3 ⊢
            simp only [List.take_zero, mx] at hsa hdec
            have : y = x := by simpa using y1.symm
            subst this
            refine ⟨by rw [mx_cons, mx_cons]; omega, .inl rfl, c3⟩
          · rw [show xs.length - m + 1 - 1 = (xs.length - m - 1) + 1 by omega, List.getElem?_cons_succ] at y1
            have hy : y ≤ mx (xs.take (xs.length - m)) := by
              refine mx_mem (List.mem_of_getElem? (i := xs.length - m - 1) ?_)
              rw [List.getElem?_take, if_pos (by omega)]; exact y1
            refine ⟨by rw [mx_cons, mx_cons]; omega, .inr ⟨y, y1, y2⟩, c3⟩
/-- nothing is left: no room, and the newest run at the limit -/
theorem exh_iff : ∀ {k R : Nat} {xs : List Nat}, Sta k R xs → (brd k xs + 1 = bin (k + R) k ↔ (R = 0 ∨ (xs.length = k ∧ ∀ y, xs.getLast? = some y → y = R)))
  | k, R, [], h => by
    simp only [brd, List.length_nil, List.getLast?_nil]
    constructor
    · intro e
      by_cases hR : R = 0
      · exact .inl hR
      · refine .inr ⟨?_, by simp⟩
        by_cases hk : k = 0
        · exact hk.symm
        · have := bin_big (k := k) (c := R) (by omega); omega
    · rintro (rfl | ⟨rfl, _⟩)
      · show 0 + 1 = bin k k
        rw [bin_self]
      · rw [bin_zero]
  | k, R, x :: xs, h => by
    have hk : 1 ≤ k := by have := h.1; rw [List.length_cons] at this; omega
    have hM := h.mx_pos
    have hMR := h.mx_le
    have ht := h.tail
    have hp := pascal hk hM
    have hle := brd_le ht
    have e2 : brd k (x :: xs) = bin (k + mx (x :: xs) - 1) k + brd (k - 1) xs := rfl
    have hR : R ≠ 0 := by omega
    have key : brd k (x :: xs) + 1 = bin (k + R) k ↔ (mx (x :: xs) = R ∧ brd (k - 1) xs + 1 = bin (k - 1 + R) (k - 1)) := by
      constructor
      · intro e
        have hmm : mx (x :: xs) = R := by
          by_cases c : mx (x :: xs) = R
          · exact c
          · have := bin_strict (n := k + mx (x :: xs)) (m := k + R) (k := k) hk (by omega) (by omega)
            omega
        rw [hmm] at hp e2
        exact ⟨hmm, by omega⟩
      · rintro ⟨c1, c2⟩
        rw [c1] at hp e2
        omega
    rw [key]
    constructor
    · rintro ⟨c1, c2⟩
      rw [c1] at ht
      rcases (exh_iff ht).mp c2 with c | ⟨c3, c4⟩
      · exact absurd c hR
      · refine .inr ⟨by rw [List.length_cons]; omega, fun y hy => ?_⟩
        cases xs with
        | nil =>
          have : y = x := by simpa using hy.symm
          subst this
          simpa [mx] using c1
        | cons z zs =>
          rw [List.getLast?_cons_cons] at hy
          exact c4 y hy
    · rintro (c | ⟨c3, c4⟩)
      · exact absurd c hR
      · have hlast : ∃ y, (x :: xs).getLast? = some y := ⟨(x :: xs).getLast (by simp), List.getLast?_eq_some_getLast (by simp)⟩
        obtain ⟨y, hy⟩ := hlast
        have hyR := c4 y hy
        subst hyR
        have hmm : mx (x :: xs) = y := by
          have := mx_mem (List.mem_of_getLast? hy)
          omega
        refine ⟨hmm, ?_⟩
        rw [hmm] at ht
        refine (exh_iff ht).mpr (.inr ⟨by rw [List.length_cons] at c3; omega, fun z hz => ?_⟩)
        cases xs with
        | nil => simp at hz
        | cons u us =>
          rw [List.getLast?_cons_cons] at hy
          rw [hz] at hy
          exact Option.some.inj hy
/-- the bound of what is merged: the next older run, or the limit of writes -/
def bnd (c : Nat) (st : List Nat) (j : Nat) : Nat := (c :: st).getD j 0
def tst (c : Nat) (st : List Nat) (m : Nat) : Prop := mx (st.drop (st.length - m)) < bnd c st (st.length - m)
def few (k : Nat) (st : List Nat) : Nat := if st.length < k then 0 else 1
/-- what best_merge returns -/
def Bm (k c : Nat) (st : List Nat) (m : Nat) : Prop := few k st ≤ m ∧ m ≤ st.length ∧ tst c st m ∧ ∀ m', few k st ≤ m' → m' < m → ¬ tst c st m'
def BmN (k c : Nat) (st : List Nat) : Prop := ∀ m, few k st ≤ m → m ≤ st.length → ¬ tst c st m
theorem bnd_zero {c : Nat} {st : List Nat} : bnd c st 0 = c := rfl
theorem bnd_succ {c j : Nat} {st : List Nat} {y : Nat} (h : st[j]? = some y) : bnd c st (j + 1) = y := by
  simp [bnd, List.getD_eq_getElem?_getD, h]
/-- while no test holds, the greatest of the merged runs is the newest one -/
theorem chain {c : Nat} {st : List Nat} {m : Nat} (hm : m ≤ st.length) (hno : ∀ m', 1 ≤ m' → m' < m → ¬ tst c st m') (h1 : 1 ≤ m) : ∀ y, st.getLast? = some y → mx (st.drop (st.length - m)) = y := by
  induction m with
  | zero => omega
  | succ m ih =>
    intro y hy
    by_cases hm0 : m = 0
    · subst hm0
      have hne : st ≠ [] := by intro e; subst e; simp at hy
      have hpos := List.length_pos_iff.mpr hne
      have e : st.drop (st.length - (0 + 1)) = [st.getLast hne] := by
        rw [List.drop_eq_getElem_cons (show st.length - (0 + 1) < st.length by omega), show st.length - (0 + 1) + 1 = st.length by omega, List.drop_length, List.getLast_eq_getElem]
      rw [e]
      rw [List.getLast?_eq_some_getLast hne] at hy
      have := Option.some.inj hy
      simp [mx, this]
    · have ih' := ih (by omega) (fun m' a b => hno m' a (by omega)) (by omega) y hy
      have hf := hno m (by omega) (by omega)
      have hj : st.length - m = (st.length - (m + 1)) + 1 := by omega
      have hlt : st.length - (m + 1) < st.length := by omega
      have ed : st.drop (st.length - (m + 1)) = st[st.length - (m + 1)] :: st.drop (st.length - m) := by
        rw [hj]; exact List.drop_eq_getElem_cons hlt
      unfold tst at hf
      rw [hj, bnd_succ (List.getElem?_eq_getElem hlt), ← hj] at hf
      rw [ed, mx_cons]
      omega
theorem last_mem {st : List Nat} {y : Nat} (h : st.getLast? = some y) : y ∈ st := List.mem_of_getLast? h
theorem sa_sta {k c : Nat} {st : List Nat} {m : Nat} (h : Sta k c st) (hm : m ≤ st.length) (h1 : st.length - m + 1 ≤ k) (h2 : 1 + mx (st.drop (st.length - m)) ≤ c) : Sta k c (sa st m) := by
  refine ⟨by rw [sa_len hm]; exact h1, fun x hx => ?_⟩
  unfold sa at hx
  rcases List.mem_append.mp hx with hx | hx
  · exact h.2 x (List.mem_of_mem_take hx)
  · have : x = 1 + mx (st.drop (st.length - m)) := by simpa using hx
    subst this
    omega
theorem tst_ok {k c : Nat} {st : List Nat} {m : Nat} (h : Sta k c st) (hm : m ≤ st.length) (ht : tst c st m) : 1 + mx (st.drop (st.length - m)) ≤ c ∧ (st.length - m = 0 ∨ ∃ y, st[st.length - m - 1]? = some y ∧ mx (st.drop (st.length - m)) < y) := by
  unfold tst at ht
  by_cases hj : st.length - m = 0
  · rw [hj, bnd_zero] at ht
    exact ⟨by rw [hj]; omega, .inl hj⟩
  · have hlt : st.length - m - 1 < st.length := by omega
    have e : st.length - m = (st.length - m - 1) + 1 := by omega
    have hb := bnd_succ (c := c) (List.getElem?_eq_getElem hlt)
    rw [← e] at hb
    rw [hb] at ht
    have := h.2 _ (List.getElem_mem hlt)
    exact ⟨by omega, .inr ⟨_, List.getElem?_eq_getElem hlt, ht⟩⟩
theorem Bm.good {k c : Nat} {st : List Nat} {m : Nat} (h : Sta k c st) (b : Bm k c st m) : Sta k c (sa st m) ∧ brd k (sa st m) = brd k st + 1 := by
  obtain ⟨b1, b2, b3, b4⟩ := b
  obtain ⟨t1, t2⟩ := tst_ok h b2 b3
  have hl := h.1
  by_cases hk : st.length < k
  · have hf : few k st = 0 := if_pos hk
    have hm0 : m = 0 := by
      by_cases c0 : m = 0
      · exact c0
      · exfalso
        refine b4 0 (by omega) (by omega) ?_
        unfold tst
        rw [Nat.sub_zero, List.drop_length]
        have hlt : st.length - 1 < st.length := by omega
        have e : st.length = (st.length - 1) + 1 := by omega
        have hb := bnd_succ (c := c) (List.getElem?_eq_getElem hlt)
        rw [← e] at hb
        rw [hb]
        exact (h.2 _ (List.getElem_mem hlt)).1
    subst hm0
    refine ⟨sa_sta h b2 (by omega) t1, (brd_sa_eq h.pos b2).mpr ⟨t2, ?_⟩⟩
    rw [Nat.sub_zero, List.drop_length]
    show 0 + 1 = bin (k - st.length) (k - st.length)
    rw [bin_self]
  · have hf : few k st = 1 := if_neg hk
    rw [hf] at b1 b4
    refine ⟨sa_sta h b2 (by omega) t1, (brd_sa_eq h.pos b2).mpr ⟨t2, ?_⟩⟩
    have hne : st ≠ [] := by intro e; subst e; simp at b2; omega
    have hy : st.getLast? = some (st.getLast hne) := List.getLast?_eq_some_getLast hne
    have hc := chain b2 b4 b1 _ hy
    have hS : Sta (k - (st.length - m)) (mx (st.drop (st.length - m))) (st.drop (st.length - m)) :=
      ⟨by rw [List.length_drop]; omega, fun x hx => ⟨(h.2 x (List.mem_of_mem_drop hx)).1, mx_mem hx⟩⟩
    refine (exh_iff hS).mpr (.inr ⟨by rw [List.length_drop]; omega, fun y hy2 => ?_⟩)
    rw [hc]
    rw [List.getLast?_drop, if_neg (by omega), hy] at hy2
    exact (Option.some.inj hy2).symm
theorem BmN.zero {k c : Nat} {st : List Nat} (h : Sta k c st) (b : BmN k c st) : brd k st + 1 = bin (k + c) k := by
  have hl := h.1
  refine (exh_iff h).mpr ?_
  by_cases hk : st.length < k
  · have hf : few k st = 0 := if_pos hk
    have h0 := b 0 (by omega) (by omega)
    unfold tst at h0
    rw [Nat.sub_zero, List.drop_length] at h0
    by_cases hn : st.length = 0
    · rw [hn, bnd_zero] at h0
      simp only [mx] at h0
      exact .inl (by omega)
    · exfalso
      have hlt : st.length - 1 < st.length := by omega
      have e : st.length = (st.length - 1) + 1 := by omega
      have hb := bnd_succ (c := c) (List.getElem?_eq_getElem hlt)
      rw [← e] at hb
      rw [hb] at h0
      have := (h.2 _ (List.getElem_mem hlt)).1
      simp only [mx] at h0
      omega
  · have hf : few k st = 1 := if_neg hk
    refine .inr ⟨by omega, fun y hy => ?_⟩
    have hne : st ≠ [] := by intro e; subst e; simp at hy
    have h1 : 1 ≤ st.length := by have := List.length_pos_iff.mpr hne; omega
    have hc := chain (c := c) (Nat.le_refl _) (fun m' a b' => b m' (by omega) (by omega)) h1 y hy
    have hlast := b st.length (by omega) (Nat.le_refl _)
    unfold tst at hlast
    rw [Nat.sub_self, bnd_zero] at hlast
    rw [Nat.sub_self] at hc
    have := (h.2 y (last_mem hy)).2
    omega
/-- only one merge costs just one -/
theorem good_uniq {k c : Nat} {st : List Nat} {m n : Nat} (h : Sta k c st) (hm : m ≤ st.length) (hn : n ≤ st.length) (s1 : Sta k c (sa st m)) (s2 : Sta k c (sa st n)) (e1 : brd k (sa st m) = brd k st + 1) (e2 : brd k (sa st n) = brd k st + 1) : m = n := by
  have hl := h.1
  have look : ∀ m, m ≤ st.length → Sta k c (sa st m) → brd k (sa st m) = brd k st + 1 → (m = 0 ∧ st.length < k) ∨ (1 ≤ m ∧ st.length = k ∧ (∀ y, st.getLast? = some y → y = mx (st.drop (st.length - m))) ∧ (st.length - m = 0 ∨ ∃ y, st[st.length - m - 1]? = some y ∧ mx (st.drop (st.length - m)) < y)) := fun m hm s e => by
    obtain ⟨t1, t2⟩ := (brd_sa_eq h.pos hm).mp e
    have hs := s.1
    rw [sa_len hm] at hs
    by_cases h0 : m = 0
    · exact .inl ⟨h0, by omega⟩
    · refine .inr ⟨by omega, ?_⟩
      have hS : Sta (k - (st.length - m)) (mx (st.drop (st.length - m))) (st.drop (st.length - m)) :=
        ⟨by rw [List.length_drop]; omega, fun x hx => ⟨(h.2 x (List.mem_of_mem_drop hx)).1, mx_mem hx⟩⟩
      rcases (exh_iff hS).mp t2 with c | ⟨c1, c2⟩
      · exfalso
        have hlt : st.length - m < st.length := by omega
        have hmem : st[st.length - m] ∈ st.drop (st.length - m) := by
          rw [List.drop_eq_getElem_cons hlt]; exact List.mem_cons_self ..
        have := mx_mem hmem
        have := (h.2 _ (List.getElem_mem hlt)).1
        omega
      · rw [List.length_drop] at c1
        refine ⟨by omega, fun y hy => c2 y ?_, t1⟩
        rw [List.getLast?_drop, if_neg (by omega)]; exact hy
  have order : ∀ m n, m ≤ st.length → n ≤ st.length → m < n → Sta k c (sa st m) → Sta k c (sa st n) → brd k (sa st m) = brd k st + 1 → brd k (sa st n) = brd k st + 1 → False := fun m n hm hn hlt s1 s2 e1 e2 => by
    rcases look m hm s1 e1 with ⟨a1, a2⟩ | ⟨a1, a2, a3, a4⟩
    · rcases look n hn s2 e2 with ⟨b1, b2⟩ | ⟨b1, b2, b3, b4⟩ <;> omega
    · rcases look n hn s2 e2 with ⟨b1, b2⟩ | ⟨b1, b2, b3, b4⟩
      · omega
      · have hne : st ≠ [] := by intro e; subst e; simp at hn; omega
        have hy : st.getLast? = some (st.getLast hne) := List.getLast?_eq_some_getLast hne
        have q1 := a3 _ hy
        have q2 := b3 _ hy
        rcases a4 with a4 | ⟨y, y1, y2⟩
        · omega
        · have hmem : y ∈ st.drop (st.length - n) := by
            refine List.mem_of_getElem? (i := (st.length - m - 1) - (st.length - n)) ?_
            rw [List.getElem?_drop, show st.length - n + (st.length - m - 1 - (st.length - n)) = st.length - m - 1 by omega]
            exact y1
          have := mx_mem hmem
          omega
  rcases Nat.lt_trichotomy m n with c | c | c
  · exact (order m n hm hn c s1 s2 e1 e2).elim
  · exact c
  · exact (order n m hn hm c s2 s1 e2 e1).elim
end MB

set_option maxHeartbeats 4000000
namespace MB
/-- no newer run is above an older one -/
def Desc (st : List Nat) : Prop := st.Pairwise fun x y => y ≤ x
theorem Desc.mx {x : Nat} {xs : List Nat} (h : Desc (x :: xs)) : mx (x :: xs) = x := by
  have h1 := (List.pairwise_cons.mp h).1
  have := MB.mx_le (c := x) h1
  rw [mx_cons]; omega
theorem Desc.tail {x : Nat} {xs : List Nat} (h : Desc (x :: xs)) : Desc xs := (List.pairwise_cons.mp h).2
/-- the lengths of the runs -/
def lens : Nat → List Nat → List Nat
  | _, [] => []
  | k, x :: xs => bin (k + x - 1) k :: lens (k - 1) xs
theorem lens_len : ∀ (k : Nat) (st : List Nat), (lens k st).length = st.length
  | _, [] => rfl
  | k, x :: xs => by simp [lens, lens_len (k - 1) xs]
theorem lw_desc {k x : Nat} {xs : List Nat} (h : Pos k (x :: xs)) (d : Desc (x :: xs)) : lwr k (brd k (x :: xs)) = x := by
  obtain ⟨h1, hk, hx⟩ := h.tail
  have hb := brd_le h.sta
  have e : brd k (x :: xs) = bin (k + mx (x :: xs) - 1) k + brd (k - 1) xs := rfl
  rw [d.mx] at hb e
  refine (lw_ok _ hk).uniq (Lw.mk' (by omega) (.inr ?_))
  rw [show k + (x - 1) = k + x - 1 by omega]
  omega
theorem rl_desc : ∀ {k : Nat} {st : List Nat}, Pos k st → Desc st → rl k (brd k st) = lens k st
  | k, [], _, _ => by simp [brd, lens, rl_zero]
  | k, x :: xs, h, d => by
    have hl := lw_desc h d
    obtain ⟨h1, hk, hx⟩ := h.tail
    have ih := rl_desc h1 d.tail
    have e : brd k (x :: xs) = bin (k + x - 1) k + brd (k - 1) xs := by
      show bin (k + mx (x :: xs) - 1) k + brd (k - 1) xs = _
      rw [d.mx]
    obtain ⟨j, rfl⟩ : ∃ j, k = j + 1 := ⟨k - 1, by omega⟩
    have hp := bin_pos (n := j + 1 + x - 1) (k := j + 1) (by omega)
    have hne : brd (j + 1) (x :: xs) ≠ 0 := by omega
    rw [rl_succ hne, hl]
    have e2 : j + x = j + 1 + x - 1 := by omega
    rw [e2, e]
    show _ :: _ = bin (j + 1 + x - 1) (j + 1) :: lens (j + 1 - 1) xs
    rw [show bin (j + 1 + x - 1) (j + 1) + brd (j + 1 - 1) xs - bin (j + 1 + x - 1) (j + 1) = brd (j + 1 - 1) xs by omega, show j + 1 - 1 = j by omega]
    rw [show j + 1 - 1 = j by omega] at ih
    rw [ih]
theorem rl_desc_len {k : Nat} {st : List Nat} (h : Pos k st) (d : Desc st) : (rl k (brd k st)).length = st.length := by rw [rl_desc h d, lens_len]
theorem sa_desc {st : List Nat} {m : Nat} (d : Desc st) (hm : m ≤ st.length) (t : st.length - m = 0 ∨ ∃ y, st[st.length - m - 1]? = some y ∧ mx (st.drop (st.length - m)) < y) : Desc (sa st m) := by
  unfold sa Desc
  refine List.pairwise_append.mpr ⟨d.sublist (List.take_sublist _ _), List.pairwise_singleton _ _, fun x hx v hv => ?_⟩
  have hv' : v = 1 + mx (st.drop (st.length - m)) := by simpa using hv
  subst hv'
  rcases t with t | ⟨y, y1, y2⟩
  · rw [t] at hx; simp at hx
  · obtain ⟨i, hi⟩ := List.getElem?_of_mem hx
    rw [List.getElem?_take] at hi
    by_cases c : i < st.length - m
    · rw [if_pos c] at hi
      have hyx : y ≤ x := by
        by_cases e : i = st.length - m - 1
        · subst e; rw [y1] at hi; have := Option.some.inj hi; omega
        · obtain ⟨q1, r1⟩ := List.getElem?_eq_some_iff.mp hi
          obtain ⟨q2, r2⟩ := List.getElem?_eq_some_iff.mp y1
          have := List.pairwise_iff_getElem.mp d i (st.length - m - 1) q1 q2 (by omega)
          omega
      omega
    · rw [if_neg c] at hi; cases hi
theorem Bm.tight {k c : Nat} {st : List Nat} {m : Nat} (h : Sta k c st) (b : Bm k c st m) : st.length - m = 0 ∨ ∃ y, st[st.length - m - 1]? = some y ∧ mx (st.drop (st.length - m)) < y := (tst_ok h b.2.1 b.2.2.1).2
/-- the policy's merges and states -/
def pm (k n : Nat) : Nat := (rl k n).length + 1 - (rl k (n + 1)).length
def pst (k : Nat) : Nat → List Nat
  | 0 => []
  | n + 1 => sa (pst k n) (pm k n)
theorem bm_ex {k c : Nat} {st : List Nat} (h : Sta k c st) (hlt : brd k st + 1 < bin (k + c) k) : ∃ m, Bm k c st m := by
  by_cases e : ∃ m, few k st ≤ m ∧ m ≤ st.length ∧ tst c st m
  · obtain ⟨m, hm⟩ := e
    induction m using Nat.strongRecOn with
    | ind m ih =>
      by_cases c' : ∃ m', m' < m ∧ few k st ≤ m' ∧ m' ≤ st.length ∧ tst c st m'
      · obtain ⟨m', h1, h2⟩ := c'
        exact ih m' h1 h2
      · exact ⟨m, hm.1, hm.2.1, hm.2.2, fun m' a b t => c' ⟨m', b, a, by have := hm.2.1; omega, t⟩⟩
  · exfalso
    have := BmN.zero h fun m a b t => e ⟨m, a, b, t⟩
    omega
/-- the best merge from a descending state is the policy's -/
theorem bm_pm {k c : Nat} {st : List Nat} {m : Nat} (h : Sta k c st) (d : Desc st) (b : Bm k c st m) : m = pm k (brd k st) ∧ Sta k c (sa st m) ∧ Desc (sa st m) ∧ brd k (sa st m) = brd k st + 1 := by
  obtain ⟨g1, g2⟩ := b.good h
  have d2 := sa_desc d b.2.1 (b.tight h)
  refine ⟨?_, g1, d2, g2⟩
  unfold pm
  rw [rl_desc_len h.pos d, ← g2, rl_desc_len g1.pos d2, sa_len b.2.1]
  have := b.2.1
  omega
theorem sta_of {k c : Nat} {st : List Nat} (h : Pos k st) (d : Desc st) (hc : brd k st < bin (k + c) k) : Sta k c st := by
  refine ⟨h.1, fun x hx => ⟨h.2 x hx, ?_⟩⟩
  cases st with
  | nil => cases hx
  | cons y ys =>
    have h1 := lw_desc h d
    have h2 := mx_mem hx
    rw [d.mx] at h2
    obtain ⟨_, hk, _⟩ := h.tail
    have h3 := (lw_ok (brd k (y :: ys)) hk).2
    rw [h1] at h3
    by_cases e : y ≤ c
    · omega
    · have := h3 c (by omega); omega
theorem pst_ok {k : Nat} (hk : 1 ≤ k) : ∀ n, Pos k (pst k n) ∧ Desc (pst k n) ∧ brd k (pst k n) = n
  | 0 => ⟨⟨by simp [pst], by simp [pst]⟩, List.Pairwise.nil, rfl⟩
  | n + 1 => by
    obtain ⟨h1, h2, h3⟩ := pst_ok hk n
    have hb := bin_big (k := k) (c := n + 2) hk
    have hs := sta_of (c := n + 2) h1 h2 (by omega)
    obtain ⟨m, b⟩ := bm_ex hs (by omega)
    obtain ⟨e, g1, g2, g3⟩ := bm_pm hs h2 b
    rw [h3] at e g3
    subst e
    exact ⟨g1.pos, g2, g3⟩
theorem pm_le {k : Nat} (hk : 1 ≤ k) (n : Nat) : pm k n ≤ (pst k n).length := by
  obtain ⟨h1, h2, h3⟩ := pst_ok hk n
  have hb := bin_big (k := k) (c := n + 2) hk
  have hs := sta_of (c := n + 2) h1 h2 (by omega)
  obtain ⟨m, b⟩ := bm_ex hs (by omega)
  obtain ⟨e, _⟩ := bm_pm hs h2 b
  rw [h3] at e
  subst e
  exact b.2.1
theorem pst_len {k : Nat} (hk : 1 ≤ k) (n : Nat) : (pst k n).length = (rl k n).length := by
  obtain ⟨h1, h2, h3⟩ := pst_ok hk n
  have := rl_desc_len h1 h2
  rw [h3] at this
  exact this.symm
theorem pm_int {k : Nat} (hk : 1 ≤ k) (n : Nat) : ((rl k n).length : Int) + 1 - ((rl k (n + 1)).length : Int) = (pm k n : Int) := by
  have h1 := pst_len hk n
  have h2 := pst_len hk (n + 1)
  have h3 := pm_le hk n
  have h4 : (pst k (n + 1)).length = (pst k n).length - pm k n + 1 := sa_len h3
  unfold pm at *
  omega
end MB

set_option maxHeartbeats 4000000
namespace MB
open PySem PySem.Spec PyProof.Rows L2
theorem alike_ints (ns : List Int) : PySem.W.AlikeAll (ns.map PyData.int) := by
  refine ⟨fun x hx y hy => ?_, fun x hx e => ?_⟩
  · obtain ⟨i, _, rfl⟩ := List.mem_map.mp hx
    obtain ⟨j, _, rfl⟩ := List.mem_map.mp hy
    simp [PySem.W.alike]
  · obtain ⟨i, _, rfl⟩ := List.mem_map.mp hx
    cases e
theorem depth_ints : ∀ ns : List Int, PyData.depthAll (ns.map PyData.int) = 0
  | [] => by simp [PyData.depthAll]
  | n :: ns => by simp [PyData.depthAll, PyData.depth, depth_ints ns]
/-! ### max of a tuple of ints; with default= -/
def rMaxT (K : PySem.W.Frag) : List V → Hp → VK → Prop := fun xs H Q => ∃ (a : Addr) (n : Int) (ns : List Int), xs = [V.ref a] ∧ SqT K H a ((n :: ns).map V.int) ∧ Q (.int (ns.foldl max n)) H
theorem cr_maxT {X : Cx} {K : PySem.W.Frag} (hK : X.K = K) (hc : X.calm = true) (hu : X.A.units + 64 < cLine) : CallR X (.builtin "max") (rMaxT K) := by
  subst hK
  intro pins s σ H vs us Q I r h
  obtain ⟨a, n, ns, rfl, hs, q⟩ := h
  obtain ⟨its, rv, hl, _⟩ := I.tuple hs
  rw [Vals.ref1 r]
  obtain ⟨as, rd⟩ := Dp.readsAll I ((n :: ns).map PyData.int) _ its (dp_ints (n :: ns)) rv
  refine PySem.W.max_tuple_data (x := .int n) (xs := ns.map PyData.int) (I.ok.hd hc) hl (by simpa using rd) (alike_ints (n :: ns)) ?_ fun i v h' tk bs _ hr hk => ?_
  · have := depth_ints (n :: ns)
    rw [List.map_cons] at this
    rw [this]; omega
  · rw [PySem.W.maxD_ints] at hr
    cases hr
    exact ⟨.int _, H, I.kept hk, ⟨_, rfl⟩, q⟩
def rMaxDef (K : PySem.W.Frag) : List V → List V → Hp → VK → Prop := fun xs zs H Q => ∃ (a : Addr) (z : Int) (ns : List Int), xs = [V.ref a] ∧ zs = [V.int z] ∧ SqT K H a (ns.map V.int) ∧ (ns = [] → Q (.int z) H) ∧ ∀ m r, ns = m :: r → Q (.int (r.foldl max m)) H
theorem cr_maxDef {X : Cx} {K : PySem.W.Frag} (hK : X.K = K) (hc : X.calm = true) (hu : X.A.units + 64 < cLine) : CallRK X (.builtin "max") [Str.ofString "default"] (rMaxDef K) := by
  subst hK
  intro pins s σ H vs zs us ws Q I r rz h
  obtain ⟨a, z, ns, rfl, rfl, hs, q0, q1⟩ := h
  obtain ⟨its, rv, hl, _⟩ := I.tuple hs
  rw [Vals.ref1 r]
  obtain ⟨u, rfl, tz, rfl⟩ := vals1 rz
  obtain ⟨as, rd⟩ := Dp.readsAll I (ns.map PyData.int) _ its (dp_ints ns) rv
  refine PySem.W.max_tuple_default (xs := ns.map PyData.int) (I.ok.hd hc) hl (by simpa using rd) (alike_ints ns) ?_ (fun e h' tk hk => ?_) fun y ys i v h' tk bs e _ hr hk => ?_
  · rw [depth_ints ns]; omega
  · exact ⟨.int z, H, I.kept hk, ⟨_, rfl⟩, q0 (List.map_eq_nil_iff.mp e)⟩
  · cases ns with
    | nil => cases e
    | cons m t =>
      rw [List.map_cons] at e
      cases e
      rw [PySem.W.maxD_ints] at hr
      cases hr
      exact ⟨.int _, H, I.kept hk, ⟨_, rfl⟩, q1 m t rfl⟩
/-! ### sorted of a tuple of ints -/
section
variable {prog : Program} {w : World} {A : Around} {E : Value → Shared → Prop} {s : Shared}
theorem gather_tuple {p : Addr} {xs : List Value} {R : List Value → Shared → Prop} (ht : s.heap.IsTuple p xs.toArray) (hz : xs.length ≤ sizeLine)
    (q : R xs { s with heap := (s.heap.push (seqObj "list" #[] 0)).update s.heap.objs.size (Obj.mapSeq (· ++ xs.toArray)) }) : wpAny (model prog w) A (collect (.ref p)) R E s := by
  obtain ⟨ob, hob, hcl, ep, hdt⟩ := id ht
  unfold collect
  refine wpAny_bind (wpAny_runValue (codeAny_builtin entry_proto_collect' (show wpAny _ _ (do again (.builtin "list.__iadd__" ⟨[← newList [], .ref p], []⟩)) _ _ s from ?_)))
  refine wpAny_bind (wpAny_newList (wpAny_pure ⟨Code.quiet_builtin _ (by decide +kernel), codeAny_builtin entry_list_iadd' (show wpAny _ _ (Builtin.List.listExtendWith (.ref s.heap.objs.size) (.ref p) (.ref s.heap.objs.size)) _ _ { s with heap := s.heap.push (seqObj "list" #[] 0) } from ?_)⟩))
  unfold Builtin.List.listExtendWith
  have hob' : (s.heap.push (seqObj "list" #[] 0)).get? p = some ob := Heap.get?_push_of_some _ hob
  refine wpAny_bind (wpAny_typeOf (T := "tuple") ⟨ob, hob', hcl⟩ ?_)
  have tt : (Value.type "tuple" == Value.type "tuple") = true := by rfl
  rw [if_pos (by rw [tt]; simp)]
  refine wpAny_bind (listItems_at hob' hdt (wpAny_bind (listItems_at (xs := #[]) (n := 0) (Heap.get?_push_size _ rfl) rfl ?_)))
  rw [if_neg (by simp)]
  refine wpAny_bind (listUpdate_at (xs := #[]) (n := 0) (Heap.get?_push_size _ rfl) rfl (wpAny_pure ?_) (Nat.zero_le _) (by show (#[] ++ xs.toArray).size ≤ sizeLine + 1; simp only [Array.size_append, List.size_toArray, List.length_nil]; omega))
  show wpAny (model prog w) A (load s.heap.objs.size >>= _) R E { s with heap := (s.heap.push (seqObj "list" #[] 0)).update s.heap.objs.size (Obj.mapSeq (· ++ xs.toArray)) }
  refine wpAny_bind (wpAny_load (get?_update_seq (Heap.get?_push_size _ rfl) _) (show wpAny _ _ (pure ((#[] : Array Value) ++ xs.toArray).toList) R E _ from ?_))
  have ex : ((#[] : Array Value) ++ xs.toArray).toList = xs := by simp
  rw [ex]
  exact wpAny_pure q
theorem sorted_tup {p : Addr} {xs : List Value} {ns : List Int} {Q : Value → Shared → Prop} (ht : s.heap.IsTuple p xs.toArray) (hz : xs.length ≤ sizeLine) (hi : IntsAre xs ns)
    (q : ∀ out : List Value, SrtO.Srtd SrtO.ltIv out → SrtO.Stb SrtO.ltIv out xs → Q (.ref (s.heap.objs.size + 1)) { s with heap := sortedAll s.heap xs out.toArray }) :
    wpAny (model prog w) A (call (.builtin "sorted") [.ref p]) Q E s := by
  refine Calls.call_function_entry kind_sorted plain_sorted entry_sorted (args_sorted1 _) ?_
  unfold Builtin.«sorted»
  refine wpAny_bind (m := checkCount "sorted" 1 1 _) (wpAny_pure (wpAny_bind (gather_tuple ht hz (wpAny_bind (wpAny_newList ?_ hz)))))
  have sz1 : ((s.heap.push (seqObj "list" #[] 0)).update s.heap.objs.size (Obj.mapSeq (· ++ xs.toArray))).objs.size = s.heap.objs.size + 1 := (Heap.size_update ..).trans (Heap.size_push ..)
  have hoL := Heap.get?_push_size ((s.heap.push (seqObj "list" #[] 0)).update s.heap.objs.size (Obj.mapSeq (· ++ xs.toArray))) (o := seqObj "list" xs.toArray 0) rfl
  rw [sz1] at hoL
  show wpAny _ _ _ _ _ { s with heap := ((s.heap.push (seqObj "list" #[] 0)).update s.heap.objs.size (Obj.mapSeq (· ++ xs.toArray))).push (seqObj "list" xs.toArray 0) }
  rw [sz1]
  exact wpAny_bind (wpAny_holding (wpAny_call_entry PyProof.Rows.slot_list_sort ⟨_, hoL, rfl⟩ PyProof.Rows.entry_list_sort (SrtO.list_sort_ord SrtO.swo_int hoL hz (fun h2 => SrtO.ints_sortable hi h2) fun out hs hb => ⟨_, rfl, wpAny_pure ⟨_, rfl, q out hs hb⟩⟩) (PyProof.Rows.args_list_sort _)))
end
def rSortT (K : PySem.W.Frag) : List V → Hp → VK → Prop := fun xs H Q => ∃ (a : Addr) (ns : List Int), xs = [V.ref a] ∧ SqT K H a (ns.map V.int) ∧ ∀ (ms : List Int) (p : Addr), ms.Perm ns → H p = none → Q (.ref p) (upd H p (.lst (ms.map V.int)))
theorem cr_sortTI {X : Cx} : CallR X (.builtin "sorted") (rSortT X.K) := by
  intro pins s σ H vs us Q I r h
  obtain ⟨a, ns, rfl, hs, q⟩ := h
  obtain ⟨its, rv, hl, hz⟩ := I.tuple hs
  rw [Vals.ref1 r]
  have hi := rv.ints
  refine sorted_tup hl (by rw [← rv.length]; exact hz) hi fun out h1 h2 => ?_
  obtain ⟨k1, k2, k3⟩ := SrtO.ints_out hi h1 h2
  obtain ⟨ep, he'⟩ := sortedAll_at s.heap its out.toArray
  have hlen : ((out.map SrtO.iv).map V.int).length ≤ sizeLine := by
    have := k2.length_eq
    simp only [List.length_map] at this hz ⊢
    omega
  exact ⟨.ref _, upd H (s.heap.objs.size + 1) (.lst ((out.map SrtO.iv).map V.int)), I.laid (t' := s.toks) (fun _ _ e => sortedAll_old e) (Nat.le_succ _) ⟨hlen, out, ep, vals_of_ints k1, he'⟩, rfl, q _ _ k2 (I.hok.fresh (Nat.le_succ _))⟩
end MB

set_option maxHeartbeats 4000000
namespace MB
open PySem PySem.Spec PyProof.Rows L2
/-! ### a tuple times a number from 1 on -/
theorem tuple_mul1 (l : Addr) (items : Array Value) (n : Nat) (dd : Option Addr) (sl : Array (Option Value)) (u : Tok) :
    Meets (Builtin.«tuple.__mul__» ⟨[.ref l, .int 1 u], []⟩) (fun _ R s => s.heap.get? l = some { cls := .type "tuple", dict := dd, data := .seq items n, slots := sl } ∧ R (.ok (.ret (Value.ref l))) s) :=
  .of_wp fun prog w A R s h => by
    obtain ⟨hp, g, d, tk, os⟩ := s
    obtain ⟨hl, h⟩ := h
    have f1 := AutoSeq1.idx_int
    have c1 : (items.isEmpty || ((1 : Int) == 1)) = true := by simp
    wp_walk using wpAny_loadPart' hl
    exact ⟨_, rfl, h⟩
def rRepQ (K : PySem.W.Frag) : R2 := fun x y H Q => ∃ l k xs, x = .ref l ∧ y = .int k ∧ SqT K H l xs ∧ xs ≠ [] ∧ 1 ≤ k ∧ k ≤ 1000 ∧ xs.length ≤ 1000 ∧ (k = 1 → Q (.ref l) H) ∧ ∀ p, H p = none → Q (.ref p) (upd H p (.tup (List.replicate k.toNat xs).flatten))
theorem op_repQ {X : Cx} : OpR X (binaryOp .Mult) (rRepQ X.K) := by
  intro pins s σ H x y v u Q I rx ry h
  obtain ⟨l, k, xs, rfl, rfl, hT, hne, g1, g2, hz, q1, q⟩ := h
  by_cases hk : k = 1
  · subst hk
    cases rx
    obtain ⟨t, rfl⟩ := ry
    obtain ⟨its, r, ⟨⟨cls, dd, data, sl⟩, ho, hc, n, hd⟩, hs⟩ := I.tuple hT
    simp only at hc hd
    subst hc hd
    refine wpAny_binaryOp_repeat_ref (T := "tuple") (U := "int") (by decide) ⟨_, ho, rfl⟩ (fun s' => typeIs_int s' 1 t) noFill_tuple_mul F.fills_int_mul F.slot_int_rmul repeat_tuple F.slot_int_index.lookup (call_meets F.slot_int_rmul (typeIs_int s 1 t) F.entry_int_rmul (F.args_int_rmul_2 _ _) (int_rmul_tuple 1 t l its.toArray n dd sl) ⟨ho, rfl, ⟨_, ho, rfl⟩, ?_⟩)
    exact call_meets F.slot_tuple_mul ⟨_, ho, rfl⟩ F.entry_tuple_mul (F.args_tuple_mul_2 _ _) (tuple_mul1 l its.toArray n dd sl t) ⟨ho, .ref l, H, I, rfl, q1 rfl⟩
  · exact op_repT pins s σ H _ _ v u Q I rx ry ⟨l, k, xs, rfl, rfl, hT, hne, by omega, g2, hz, q⟩
theorem rep_read {K : PySem.W.Frag} {H : Hp} {l : Addr} {k : Int} {xs : List V} {Q : VK} (h : SqT K H l xs) (hn : xs ≠ []) (h1 : 1 ≤ k) (h2 : k ≤ 1000) (hz : xs.length ≤ 1000) (q : ∀ p H', Same H H' → SqT K H' p (List.replicate k.toNat xs).flatten → Q (.ref p) H') : rRepQ K (.ref l) (.int k) H Q := by
  refine ⟨l, k, xs, rfl, rfl, h, hn, h1, h2, hz, fun e => q l H (Same.refl H) ?_, fun p np => q p _ (same_upd np) (.inl (.inl upd_same))⟩
  rw [e]
  simpa using h
end MB

set_option maxHeartbeats 4000000
namespace MB
open PySem PySem.Spec PyProof.Rows L2
/-! ### a tuple from its end: t[::-1] -/
theorem adj_rev (n : Nat) : Builtin.Slice.sliceAdjust none none (-1) (n : Int) = ((n : Int) - 1, -1) := rfl
theorem places_rev (n : Nat) : Builtin.Slice.slicePlaces ((n : Int) - 1) (-1) (-1) = n := by
  unfold Builtin.Slice.slicePlaces
  have h1 : ¬ ((-1 : Int) > 0) := by omega
  simp only [h1, if_false]
  have h2 : -(-1 : Int) = 1 := by decide
  rw [h2, Int.ediv_one]
  split <;> omega
theorem pick_rev (xs : Array Value) : ((List.range xs.size).filterMap fun (k : Nat) => xs[(((xs.size : Int) - 1) + (k : Int) * (-1)).toNat]?).toArray = xs.toList.reverse.toArray := by
  congr 1
  have key : ∀ k, k < xs.size → xs[(((xs.size : Int) - 1) + (k : Int) * (-1)).toNat]? = some (xs.toList.reverse.getD k .none) := fun k hk => by
    have e : (((xs.size : Int) - 1) + (k : Int) * (-1)).toNat = xs.size - 1 - k := by omega
    have hl : k < xs.toList.reverse.length := by simpa using hk
    rw [e, List.getD_eq_getElem?_getD, List.getElem?_eq_getElem hl, Option.getD_some, List.getElem_reverse]
    rw [Array.getElem?_eq_getElem (by omega)]
    simp
  have h2 : (List.range xs.size).filterMap (fun (k : Nat) => xs[(((xs.size : Int) - 1) + (k : Int) * (-1)).toNat]?) = (List.range xs.size).map fun k => xs.toList.reverse.getD k .none := by
    have aux : ∀ (l : List Nat), (∀ k, k ∈ l → k < xs.size) → l.filterMap (fun (k : Nat) => xs[(((xs.size : Int) - 1) + (k : Int) * (-1)).toNat]?) = l.map fun k => xs.toList.reverse.getD k .none := by
      intro l
      induction l with
      | nil => intro _; rfl
      | cons a l ih =>
        intro h
        rw [List.filterMap_cons, key a (h a (List.mem_cons_self ..)), ih fun k hk => h k (List.mem_cons_of_mem _ hk)]
        rfl
    exact aux _ fun k hk => List.mem_range.mp hk
  rw [h2]
  refine List.ext_getElem (by simp) fun k h3 h4 => ?_
  rw [List.getElem_map, List.getElem_range, List.getD_eq_getElem?_getD, List.getElem?_eq_getElem h4, Option.getD_some]
section
variable {prog : Program} {w : World} {A : Around} {E : Value → Shared → Prop} {s : Shared}
theorem applied_rev {sl : Addr} {vl vu vs : Value} {n : Nat} {Q : Int × Int × Nat → Shared → Prop} (hs : s.heap.IsSliceOf sl vl vu vs) (pl : IsPart vl none) (pu : IsPart vu none) (ps : IsPart vs (some (-1)))
    (h : Q ((n : Int) - 1, -1, n) s) : wpAny (model prog w) A (Builtin.Slice.sliceApplied (.ref sl) (pure (n : Int))) Q E s := by
  obtain ⟨os, hos, hcs, hds⟩ := id hs
  unfold Builtin.Slice.sliceApplied Builtin.Slice.sliceFields
  refine wpAny_bind (wpAny_bind (wpAny_field hos hds (x := vl) rfl (wpAny_bind (wpAny_field hos hds (x := vu) rfl (wpAny_bind (wpAny_field hos hds (x := vs) rfl (wpAny_pure ?_)))))))
  refine wpAny_bind (HT.slicePart_ ps ?_)
  show wpAny _ _ (if ((-1 : Int) == 0) = true then _ else _) _ _ s
  rw [if_neg (by decide)]
  refine wpAny_bind (HT.slicePart_ pl (wpAny_bind (HT.slicePart_ pu (wpAny_bind (wpAny_pure ?_)))))
  show wpAny _ _ (match Builtin.Slice.sliceAdjust none none (-1) (n : Int) with | (lo, hi) => pure (lo, (-1 : Int), Builtin.Slice.slicePlaces lo hi (-1))) _ _ s
  rw [adj_rev]
  show wpAny _ _ (pure ((n : Int) - 1, (-1 : Int), Builtin.Slice.slicePlaces ((n : Int) - 1) (-1) (-1))) _ _ s
  rw [places_rev]
  exact wpAny_pure h
theorem getItem_rev {t sl : Addr} {items : Array Value} {vl vu vs : Value} {Q : Value → Shared → Prop} (ht : IsTup s.heap t items) (hs : s.heap.IsSliceOf sl vl vu vs) (pl : IsPart vl none) (pu : IsPart vu none) (ps : IsPart vs (some (-1)))
    (h : Q (.ref s.heap.objs.size) { s with heap := s.heap.push { cls := .type "tuple", data := .seq items.toList.reverse.toArray } }) (hsz : items.size ≤ sizeLine) : wpAny (model prog w) A (getItem (.ref t) (.ref sl)) Q E s := by
  have hok : sizeOk (.seq items.toList.reverse.toArray) := by
    show items.toList.reverse.toArray.size ≤ sizeLine
    simpa using hsz
  obtain ⟨os, hos, hcs, hds⟩ := id hs
  have hTs : s.TypeIs (.ref sl) "slice" := ⟨os, hos, hcs⟩
  unfold getItem
  (try with_reducible refine wpAny_holding ?_)
  (first | refine wpAny_bind (wpAny_pure ?_) | skip)
  refine wpAny_bind (wpAny_sequenceKey ht.typeIs (by decide) (wpAny_bind (wpAny_callSpecial?_slot (name := Str.ofString "__getitem__") ht.typeIs PyProof.Rows.slot_tuple_getitem (wpAny_call_entry PyProof.Rows.slot_tuple_getitem ht.typeIs entry_tuple_getitem ?_ (args_tuple_getitem _ _)))))
  show wpAny _ _ (Builtin.Tuple.tupleItemsOf (.ref t) >>= _) _ _ s
  refine wpAny_bind (tupleItemsOf_ ht (wpAny_bind (wpAny_typeOf hTs ?_)))
  rw [if_pos (by decide)]
  refine wpAny_bind (applied_rev hs pl pu ps ?_)
  show wpAny _ _ (if (((items.size : Int) - 1) == 0 && (-1 : Int) == 1 && items.size == items.size) = true then _ else _) _ _ s
  rw [if_neg (by simp), pick_rev]
  exact wpAny_bind (m := Builtin.Tuple.tupleExact _) (wpAny_newObj_type (wpAny_pure ⟨_, rfl, wpAny_pure h⟩) hok)
end
def tRevT (K : PySem.W.Frag) (te : TE) : TE := fun σ H Q => te σ H fun x H1 => ∃ a xs, x = .ref a ∧ SqT K H1 a xs ∧ ∀ p, H1 p = none → Q (.ref p) (upd H1 p (.tup xs.reverse))
theorem pe_revT {X : Cx} {K : PySem.W.Frag} (hK : X.K = K) {e : Expr} {te : TE} {k : Nat} {p1 p2 p3 pos : PySem.Pos} (he : PE X e te) : PE X (.Subscript e (.Slice none none (some (.UnaryOp .USub (.Constant (.int 1) k p1) p2)) p3) pos) (tRevT K te) := by
  subst hK
  refine ⟨fun pins s σ H Q I h => ?_⟩
  refine Subscript_ (thn (he.run pins s σ H _ I h) fun v s1 ⟨x, H1, I1, r1, q1⟩ => ?_)
  obtain ⟨a, xs, rfl, hx, q⟩ := q1
  cases r1
  have hst : PO X (some (.UnaryOp .USub (.Constant (.int 1) k p1) p2)) (tPart (tUn (rU fun i => .int (-i)) (tC (.int 1)))) := po_some (pe_un un_neg pe_int)
  refine wpAny_Slice (thn (po_none.run pins s1 σ H1 (fun o H2 => o = none ∧ H2 = H1) I1 ⟨rfl, rfl⟩) fun vl s2 ⟨lo, H2, I2, pl, elo, eH⟩ => ?_)
  cases elo; cases eH
  refine thn (po_none.run pins s2 σ H1 (fun o H3 => o = none ∧ H3 = H1) I2 ⟨rfl, rfl⟩) fun vu s3 ⟨hi, H3, I3, pu, ehi, eH⟩ => ?_
  cases ehi; cases eH
  refine thn (hst.run pins s3 σ H1 (fun o H4 => o = some (-1) ∧ H4 = H1) I3 ⟨1, rfl, -1, rfl, rfl, rfl⟩) fun vs s4 ⟨st, H4, I4, ps, est, eH⟩ => ?_
  cases est; cases eH
  have I5 : Inv X pins σ H1 { s4 with heap := s4.heap.push { cls := .type "slice", data := .fields #[vl, vu, vs] } } := I4.kept (t' := s4.toks) fun b ob e => Heap.get?_push_of_some _ e
  obtain ⟨its, r, ht, hz⟩ := I5.tuple hx
  have hlen := r.length
  show wpAny (model X.prog X.w) X.A (subscriptTail e (.Slice none none (some (.UnaryOp .USub (.Constant (.int 1) k p1) p2)) p3) (.ref a) (.ref s4.heap.objs.size)) (EP X pins σ Q) X.xe { s4 with heap := s4.heap.push { cls := .type "slice", data := .fields #[vl, vu, vs] } }
  refine tail_any (ops := [.ref a, .ref s4.heap.objs.size]) ht.typeIs (PyProof.Rows.slot_tuple_getitem.lookup) ?_ (by with_unfolding_all rfl)
  refine getItem_rev ht (Heap.IsSliceOf.new _ vl vu vs) pl pu ps ?_ (by rw [List.size_toArray]; omega)
  refine ⟨.ref _, _, I5.laid (t' := s4.toks) (o := .tup xs.reverse) (fun b ob e => Heap.get?_push_of_some _ e) (Nat.le_refl _) ?_, rfl, q _ (I5.hok.fresh (Nat.le_refl _))⟩
  exact ⟨by rw [List.length_reverse]; exact hz, its.reverse, r.reverse, IsTup.new _ _⟩
end MB

set_option maxHeartbeats 4000000
namespace MB
open PySem PySem.Spec PyProof.Rows L2
/-! ### a body whose first statement never ends in order -/
theorem pss_stop {X : Cx} {st : Stmt} {rest : List Stmt} {t : TS} (h1 : PS X st t) : PSs X (st :: rest) (fun D σ H => t { D with nx := fun _ _ => False } σ H) := by
  refine ⟨fun pins s σ H D I h => ?_⟩
  refine wpAny_execs_cons (thn (h1.run pins s σ H { D with nx := fun _ _ => False } I h) fun f s1 q => ?_)
  cases f with
  | next =>
    obtain ⟨_, _, _, q⟩ := q
    exact q.elim
  | ret v => exact q
  | brk => exact q
  | cont => exact q
/-! ### texts of data are texts -/
theorem strOk_of (s : String) : PyData.strOk (Str.ofString s) = true := by
  rw [Str.ofString_eq_toList]
  unfold PyData.strOk
  rw [← Array.all_toList, List.all_eq_true]
  intro c hc
  obtain ⟨z, _, rfl⟩ := List.mem_map.mp hc
  refine decide_eq_true ?_
  have h := z.valid
  have e : z.toNat = z.val.toNat := rfl
  rcases h with h | h
  · exact Nat.lt_trans (show z.toNat < 0xd800 from h) (by decide)
  · exact h.2
theorem strOk_app {a b : Str} (h1 : PyData.strOk a = true) (h2 : PyData.strOk b = true) : PyData.strOk (a ++ b) = true := by
  show (a.cps ++ b.cps).all _ = true
  rw [Array.all_append]
  rw [Bool.and_eq_true]
  exact ⟨h1, h2⟩
theorem strOk_join {sep : Str} (hs : PyData.strOk sep = true) : ∀ {ts : List Str}, (∀ t, t ∈ ts → PyData.strOk t = true) → PyData.strOk (Str.join sep ts) = true
  | [], _ => by show PyData.strOk Str.empty = true; decide +kernel
  | [x], h => h x (List.mem_cons_self ..)
  | x :: y :: r, h => by
    show PyData.strOk (x ++ sep ++ Str.join sep (y :: r)) = true
    exact strOk_app (strOk_app (h x (List.mem_cons_self ..)) hs) (strOk_join hs fun t ht => h t (List.mem_cons_of_mem _ ht))
theorem strOk_from : ∀ {ts : List Str} {k : Nat} {acc : Str}, PyData.strOk acc = true → (∀ t, t ∈ ts → PyData.strOk t = true) → PyData.strOk (textFrom k acc ts) = true
  | [], _, _, h, _ => h
  | t :: r, k, acc, h, ht => by
    refine strOk_from (ts := r) (k := k + 1) (acc := acc ++ (if k > 0 then ", " else "" : String) ++ t) (strOk_app (strOk_app h (strOk_of _)) (ht t (List.mem_cons_self ..))) fun x hx => ht x (List.mem_cons_of_mem _ hx)
theorem k_reprD {X : Cx} {K : PySem.W.Frag} (e : X.K = K) (hgd : X.A.guards = some []) (hu : X.A.units + 64 < cLine) : CallR X (.builtin "repr") (rReprD K) := by
  rw [← e]; exact call_reprD hgd hu
def SOk (d : PyData) : Prop := PyData.strOk d.shown = true
theorem shownAll_map : ∀ ds : List PyData, PyData.shownAll ds = ds.map PyData.shown
  | [] => rfl
  | d :: ds => by simp only [PyData.shownAll, List.map_cons, shownAll_map ds]
theorem SOk.int {i : Int} : SOk (.int i) := by unfold SOk; simp only [PyData.shown]; exact strOk_of _
theorem SOk.none : SOk .none := by unfold SOk; simp only [PyData.shown]; exact strOk_of _
theorem SOk.bool {b : Bool} : SOk (.bool b) := by unfold SOk; simp only [PyData.shown]; cases b <;> exact strOk_of _
theorem SOk.tup {ds : List PyData} (h : ∀ d, d ∈ ds → SOk d) : SOk (.tuple ds) := by
  unfold SOk
  simp only [PyData.shown]
  rw [shownAll_map]
  unfold tupleText
  refine strOk_app (strOk_app (strOk_of _) (strOk_join (strOk_of _) fun t ht => ?_)) (strOk_of _)
  obtain ⟨d, hd, rfl⟩ := List.mem_map.mp ht
  exact h d hd
theorem SOk.lst {ds : List PyData} (h : ∀ d, d ∈ ds → SOk d) : SOk (.list ds) := by
  unfold SOk
  simp only [PyData.shown]
  rw [shownAll_map]
  unfold listText
  refine strOk_app (strOk_from (strOk_of _) fun t ht => ?_) (strOk_of _)
  obtain ⟨d, hd, rfl⟩ := List.mem_map.mp ht
  exact h d hd
theorem SOk.ints {ns : List Int} : ∀ d, d ∈ ns.map PyData.int → SOk d := fun d hd => by
  obtain ⟨i, _, rfl⟩ := List.mem_map.mp hd
  exact .int
theorem SOk.dic1 {x : Str} {d : PyData} (hx : SOk (.str x)) (h : SOk d) : SOk (.dict [(.str x, d)]) := by
  unfold SOk at *
  simp only [PyData.shown, PyData.shownKv] at *
  unfold dictText
  exact strOk_app (strOk_app (strOk_of _) (strOk_join (strOk_of _) fun t ht => by
    rw [List.mem_singleton.mp ht]
    exact strOk_app (strOk_app hx (strOk_of _)) h)) (strOk_of _)
theorem Sh.str {x : Str} {k : Nat} (h : PyData.strOk x = true) : Sh k (.str x) := ⟨by simp only [PyData.canLay0]; exact h, by simp [PyData.depth]⟩
end MB

set_option maxHeartbeats 4000000
namespace MB
open PySem PySem.Spec PyProof.Rows L2
/-! ### a < b for data alike, to any depth -/
def rLtD (K : PySem.W.Frag) : R2 := fun x y H Q => ∃ d e, Dp K H x d ∧ Dp K H y e ∧ PySem.W.alike d e = true ∧ d ≠ .none ∧ d.depth ≤ 64 ∧ Q (.bl (PySem.W.dataLt d e)) H
theorem op_ltD {X : Cx} (hu : X.A.units + 64 < cLine) : OpR X (compareOp .Lt) (rLtD X.K) := by
  intro pins s σ H x y v u Q I rx ry h
  obtain ⟨d, e, hd, he, ha, hn, hdep, q⟩ := h
  obtain ⟨as, r1⟩ := Dp.reads I d x v hd rx
  obtain ⟨bs, r2⟩ := Dp.reads I e y u he ry
  exact PySem.W.rcLt_alike d e X.A s v u as bs r1 r2 ha hn (by have := Nat.min_le_left d.depth e.depth; omega) X.prog X.w _ _ ⟨.bl _, H, I, rfl, q⟩
end MB

namespace MB
/-! `in` and `not in` of deep lists: HandS.Deep -/
end MB

set_option maxHeartbeats 4000000
namespace MB
open PySem PySem.Spec PyProof.Rows L2
/-! ### comprehensions with two clauses: the items by their data -/
/-- the list under way -/
def Acc (K : PySem.W.Frag) (H1 H : Hp) (D : Addr) (ds : List PyData) : Prop := Same H1 H ∧ ∃ acc, H D = some (.lst acc) ∧ DpAll K H acc ds
theorem lc2_in {K : PySem.W.Frag} {J : It} {n : Nat} {G : Hp → Prop} {Y : Nat → Hp → V → Hp → Prop} (w : Walk J n G Y) {g : TG} {tt : TT} {te : TE} {vs : List Nat} {σ : L2.St} {H1 H4 : Hp} {D : Addr} {Nx : Hp → Prop}
    (pre ds : List PyData) (hl : ds.length = n) (hp : ∀ d, d ∈ pre → Tf d) (ht : ∀ d, d ∈ ds → Tf d) (hn : pre.length + n ≤ 100000) (hD : H1 D = none) (h4 : Acc K H1 H4 D pre) (hG : ∀ H, Same H1 H → G H)
    (hs : ∀ i x H H', i < n → Same H1 H → Y i H x H' → ∀ d, ds[i]? = some d → ∀ R : V → Hp → Prop, (∀ y H5, Same H H5 → Dp K H5 y d → R y H5) →
      g x (wipe σ vs) H' fun σ2 H2 => wipe σ2 vs = wipe σ vs ∧ tt σ2 H2 fun b H3 => b = true ∧ te σ2 H3 R)
    (hN : ∀ H, Acc K H1 H D (pre ++ ds) → Nx H)
    (mg : ∀ x σ' H' (Q Q' : L2.St → Hp → Prop), (∀ a b, Q a b → Q' a b) → g x σ' H' Q → g x σ' H' Q') (mt : ∀ σ' H' (Q Q' : Bool → Hp → Prop), (∀ a b, Q a b → Q' a b) → tt σ' H' Q → tt σ' H' Q') :
    ∃ W : Nat → Nat → Hp → Prop, (∃ m, W 0 m H4) ∧ ∀ j k H, W j k H →
      (J.stop j H ∧ Nx H) ∨ (J.go j H ∧ ∃ Nx1 : Hp → Prop, (∀ H', Nx1 H' → ∃ k', k' < k ∧ W (j + 1) k' H') ∧ ∀ x H', J.yld j H x H' → g x (wipe σ vs) H' fun σ3 H5 => wipe σ3 vs = wipe σ vs ∧ tt σ3 H5 fun b H6 =>
        if b = true then te σ3 H6 fun y H7 => ∃ acc, H7 D = some (.lst acc) ∧ acc.length < sizeLine ∧ Nx1 (upd H7 D (.lst (acc ++ [y]))) else Nx1 H6) := by
  refine ⟨fun i m H => m = n - i ∧ i ≤ n ∧ Acc K H1 H D (pre ++ ds.take i), ⟨n, by simp, Nat.zero_le _, by simpa using h4⟩, ?_⟩
  rintro i m H ⟨rfl, hi, s1, acc, ha, hA⟩
  have q := hG H s1
  by_cases hlt : i < n
  · refine .inr ⟨w.goes i H hlt q, fun H' => Acc K H1 H' D (pre ++ ds.take (i + 1)), fun H' p' => ⟨n - (i + 1), by omega, rfl, hlt, p'⟩, fun x H' y => ?_⟩
    have hd' : ds[i]? = some ds[i] := List.getElem?_eq_getElem (by omega)
    have hlen := DpAll.len hA
    rw [List.length_append, List.length_take] at hlen
    refine mg _ _ _ _ _ ?_ (hs i x H H' hlt s1 (w.yields i H x H' hlt q y) ds[i] hd' (fun y H7 => ∃ acc, H7 D = some (.lst acc) ∧ acc.length < sizeLine ∧ Acc K H1 (upd H7 D (.lst (acc ++ [y]))) D (pre ++ ds.take (i + 1))) ?_)
    · rintro σ2 H2 ⟨e1, e2⟩
      refine ⟨e1, mt _ _ _ _ ?_ e2⟩
      rintro b H3 ⟨rfl, e3⟩
      exact iteT e3
    · intro y H5 s5 hy5
      refine ⟨acc, s5 _ _ ha, sz61 (by omega), Same.mut (s1.trans s5) hD, acc ++ [y], upd_same, ?_⟩
      have kp : Keep K H5 (upd H5 D (.lst (acc ++ [y]))) := But.keep But.upd (s5 _ _ ha)
      rw [List.take_add_one, hd', ← List.append_assoc]
      refine DpAll.keep kp (fun d h => ?_) (DpAll.append (DpAll.same s5 hA) (.cons hy5 .nil))
      rcases List.mem_append.mp h with h | h
      · rcases List.mem_append.mp h with h | h
        · exact hp d h
        · exact ht d (List.mem_of_mem_take h)
      · have e : d = ds[i] := by simpa using h
        rw [e]; exact ht _ (List.getElem_mem ..)
  · have e : i = n := by omega
    subst e
    rw [List.take_of_length_le (by omega)] at hA
    exact .inl ⟨w.stops H q, hN H ⟨s1, acc, ha, hA⟩⟩
theorem yesT {σ : L2.St} {H : Hp} {T N : Hp → Prop} (h : T H) : tYes σ H (fun b H3 => if b = true then T H3 else N H3) := by
  unfold tYes
  exact iteT h
/-- what the blocks before i give -/
def blks (f : Nat → List PyData) (i : Nat) : List PyData := (List.range i).flatMap f
theorem blks_succ (f : Nat → List PyData) (i : Nat) : blks f (i + 1) = blks f i ++ f i := by
  unfold blks
  rw [List.range_succ, List.flatMap_append]
  simp
theorem mem_blks {f : Nat → List PyData} {i : Nat} {d : PyData} (h : d ∈ blks f i) : ∃ j, j < i ∧ d ∈ f j := by
  unfold blks at h
  obtain ⟨j, hj, hd⟩ := List.mem_flatMap.mp h
  exact ⟨j, List.mem_range.mp hj, hd⟩
theorem lc2_out {K : PySem.W.Frag} {J : It} {n : Nat} {G : Hp → Prop} {Y : Nat → Hp → V → Hp → Prop} (w : Walk J n G Y) {g : TG} {tt : TT} {T : L2.St → Hp → (Hp → Prop) → Prop} {vs : List Nat} {σ : L2.St} {H1 : Hp} {D : Addr} {Qd : Hp → Prop}
    (f : Nat → List PyData) (hD : H1 D = none) (hG : ∀ H, Same H1 H → G H)
    (hs : ∀ i x H H', i < n → Acc K H1 H D (blks f i) → Y i H x H' → ∀ Nx : Hp → Prop, (∀ H, Acc K H1 H D (blks f i ++ f i) → Nx H) →
      g x (wipe σ vs) H' fun σ2 H2 => wipe σ2 vs = wipe σ vs ∧ tt σ2 H2 fun b H3 => if b = true then T σ2 H3 Nx else Nx H3)
    (hd : ∀ H acc, Same H1 H → H D = some (.lst acc) → DpAll K H acc (blks f n) → Qd H) :
    ∃ W : Nat → Nat → Hp → Prop, (∃ m, W 0 m (upd H1 D (.lst []))) ∧ ∀ i m H, W i m H →
      (J.stop i H ∧ Qd H) ∨ (J.go i H ∧ ∃ Nx : Hp → Prop, (∀ H', Nx H' → ∃ m', m' < m ∧ W (i + 1) m' H') ∧ ∀ x H', J.yld i H x H' → g x (wipe σ vs) H' fun σ2 H2 => wipe σ2 vs = wipe σ vs ∧ tt σ2 H2 fun b H3 =>
        if b = true then T σ2 H3 Nx else Nx H3) := by
  refine ⟨fun i m H => m = n - i ∧ i ≤ n ∧ Acc K H1 H D (blks f i), ⟨n, by simp, Nat.zero_le _, same_upd hD, [], upd_same, .nil⟩, ?_⟩
  rintro i m H ⟨rfl, hi, p⟩
  have q := hG H p.1
  by_cases hlt : i < n
  · exact .inr ⟨w.goes i H hlt q, fun H' => Acc K H1 H' D (blks f (i + 1)), fun H' p' => ⟨n - (i + 1), by omega, rfl, hlt, p'⟩, fun x H' y => hs i x H H' hlt p (w.yields i H x H' hlt q y) _ fun H2 a => by rw [blks_succ]; exact a⟩
  · have e : i = n := by omega
    subst e
    obtain ⟨s1, acc, ha, hA⟩ := p
    exact .inl ⟨w.stops H q, hd H acc s1 ha hA⟩
theorem lc_allW {K : PySem.W.Frag} {J : It} {n : Nat} {G : Hp → Prop} {Y : Nat → Hp → V → Hp → Prop} (w : Walk J n G Y) {g : TG} {tt : TT} {te : TE} {vs : List Nat} {σ : L2.St} {H1 : Hp} {D : Addr} {Qd : Hp → Prop}
    (ds : List PyData) (hl : ds.length = n) (ht : ∀ d, d ∈ ds → Tf d) (hn : n ≤ 90000) (hD : H1 D = none) (hG : ∀ H, Same H1 H → G H)
    (hs : ∀ i x H H', i < n → Same H1 H → Y i H x H' → ∀ d, ds[i]? = some d → ∀ R : V → Hp → Prop, (∀ y H4, Same H H4 → Dp K H4 y d → R y H4) →
      g x (wipe σ vs) H' fun σ2 H2 => wipe σ2 vs = wipe σ vs ∧ tt σ2 H2 fun b H3 => b = true ∧ te σ2 H3 R)
    (hd : ∀ H acc, Same H1 H → H D = some (.lst acc) → DpAll K H acc ds → Qd H)
    (mg : ∀ x σ' H' (Q Q' : L2.St → Hp → Prop), (∀ a b, Q a b → Q' a b) → g x σ' H' Q → g x σ' H' Q') (mt : ∀ σ' H' (Q Q' : Bool → Hp → Prop), (∀ a b, Q a b → Q' a b) → tt σ' H' Q → tt σ' H' Q') :
    ∃ W : Nat → Nat → Hp → Prop, (∃ m, W 0 m (upd H1 D (.lst []))) ∧ ∀ i m H, W i m H →
      (J.stop i H ∧ Qd H) ∨ (J.go i H ∧ ∃ Nx : Hp → Prop, (∀ H', Nx H' → ∃ m', m' < m ∧ W (i + 1) m' H') ∧ ∀ x H', J.yld i H x H' → g x (wipe σ vs) H' fun σ2 H2 => wipe σ2 vs = wipe σ vs ∧ tt σ2 H2 fun b H3 =>
        if b = true then te σ2 H3 fun y H4 => ∃ acc, H4 D = some (.lst acc) ∧ acc.length < sizeLine ∧ Nx (upd H4 D (.lst (acc ++ [y]))) else Nx H3) := by
  refine lc_it w (fun i H => Same H1 H ∧ ∃ acc, H D = some (.lst acc) ∧ DpAll K H acc (ds.take i)) ⟨same_upd hD, [], upd_same, .nil⟩ (fun i H _ h => hG H h.1) ?_ ?_
  · rintro i x H H' hi ⟨s1, acc, ha, hA⟩ hy
    have hd' : ds[i]? = some ds[i] := List.getElem?_eq_getElem (by omega)
    have hlen := DpAll.len hA
    rw [List.length_take] at hlen
    refine mg _ _ _ _ _ ?_ (hs i x H H' hi s1 hy ds[i] hd' (fun y H4 => ∃ acc, H4 D = some (.lst acc) ∧ acc.length < sizeLine ∧ (Same H1 (upd H4 D (.lst (acc ++ [y]))) ∧ ∃ acc', (upd H4 D (.lst (acc ++ [y]))) D = some (.lst acc') ∧ DpAll K (upd H4 D (.lst (acc ++ [y]))) acc' (ds.take (i + 1)))) ?_)
    · rintro σ2 H2 ⟨h1, h2⟩
      refine ⟨h1, mt _ _ _ _ ?_ h2⟩
      rintro b H3 ⟨rfl, h3⟩
      exact iteT h3
    · intro y H4 s4 hy4
      refine ⟨acc, s4 _ _ ha, sz61 (by omega), Same.mut (s1.trans s4) hD, acc ++ [y], upd_same, ?_⟩
      have kp : Keep K H4 (upd H4 D (.lst (acc ++ [y]))) := But.keep But.upd (s4 _ _ ha)
      rw [List.take_add_one, hd']
      refine DpAll.keep kp (fun d h => ?_) (DpAll.append (DpAll.same s4 hA) (.cons hy4 .nil))
      rcases List.mem_append.mp h with h | h
      · exact ht d (List.mem_of_mem_take h)
      · have e : d = ds[i] := by simpa using h
        rw [e]; exact ht _ (List.getElem_mem ..)
  · rintro H ⟨s1, acc, ha, hA⟩
    rw [List.take_of_length_le (by omega)] at hA
    exact hd H acc s1 ha hA

/-- enumerate in a second clause -/
theorem k_enumT {X : Cx} {K : PySem.W.Frag} (hK : X.K = K) {e : Expr} {ta : TA} {p pos tpos : PySem.Pos} {elts : List Expr} {kk : Nat} (hg : Gl X "enumerate") (hm : X.mg "enumerate" = none) (ha : PA X [e] ta) (hs : starEach [e] X.env = [(false, eval e X.env)] := by rfl) :
    PI X (.Tuple elts kk tpos) (.Call (.Name "enumerate" p) [e] [] pos) (iEnumT K ta) := by
  subst hK
  exact pi_enumT hg hm ha hs
end MB

set_option maxHeartbeats 4000000
namespace MB
open PySem PySem.Spec PyProof.Rows L2
/-- list(range(n)) -/
def tLRng (te : TE) : TE := fun σ H Q => tCons te tNil σ H fun vs H1 => ∃ x, vs = [x] ∧ ∃ n : Nat, x = .int (n : Int) ∧ n ≤ 1000 ∧ ∀ l, H1 l = none → Q (.ref l) (upd H1 l (.lst ((List.range n).map fun i => V.int ((i : Nat) : Int))))
theorem rng_small : ∀ n : Nat, n < 1001 → Builtin.Range.small 0 (n:Int) 1 = true ∧ Builtin.Range.rangeSize 0 (n : Int) 1 = (n : Int) := by decide +kernel
theorem vals_rng' : ∀ (its : List Value) (k : Nat), (∀ (j : Nat) (v : Value), its[j]? = some v → ∃ t, v = Value.int ((k + j : Nat) : Int) t) → Vals ((List.range' k its.length).map fun i => V.int ((i : Nat) : Int)) its
  | [], _, _ => .nil
  | u :: its, k, h => by
    rw [List.length_cons, List.range'_succ, List.map_cons]
    refine .cons (h 0 u rfl) (vals_rng' its (k + 1) fun j v hj => ?_)
    obtain ⟨t, e⟩ := h (j + 1) v hj
    exact ⟨t, by rw [e]; congr 1; omega⟩
theorem vals_rng {its : List Value} {n : Nat} (hn : its.length = n) (h : ∀ (j : Nat) (v : Value), its[j]? = some v → ∃ t, v = Value.int (0 + (j : Int) * 1) t) : Vals ((List.range n).map fun i => V.int ((i : Nat) : Int)) its := by
  subst hn
  rw [List.range_eq_range']
  exact vals_rng' its 0 fun j v hj => by
    obtain ⟨t, e⟩ := h j v hj
    exact ⟨t, by rw [e]; congr 1; omega⟩
theorem pe_lrng {X : Cx} {e : Expr} {te : TE} {p1 p2 p3 p4 : PySem.Pos} (hc : X.calm = true) (gl : Gl X "list") (ml : X.mg "list" = none) (gr : Gl X "range") (mr : X.mg "range" = none) (he : PE X e te)
    (s1 : starEach [e] X.env = (false, eval e X.env) :: starEach [] X.env := by rfl) (s2 : starEach [.Call (.Name "range" p2) [e] [] p3] X.env = (false, eval (.Call (.Name "range" p2) [e] [] p3) X.env) :: starEach [] X.env := by rfl)
    (b1 : ((backTo p3 (starEach [] X.env)).any fun x => x.1) = false := by rfl) (b2 : ((backTo p4 (starEach [] X.env)).any fun x => x.1) = false := by rfl) :
    PE X (.Call (.Name "list" p1) [.Call (.Name "range" p2) [e] [] p3] [] p4) (tLRng te) := by
  refine ⟨fun pins s σ H Q I h => ?_⟩
  refine wpAny_Call_Name_kw (ld_blt I gl ml (by decide +kernel : bootBuiltins (Str.ofString "list") = some (.type "list")) (callWith_type1 ?_ s2 b2) (by decide +kernel) (by decide +kernel))
  rw [s2]
  refine Calls.spliced_cons ?_
  refine wpAny_Call_Name_kw (ld_blt I gr mr (by decide +kernel : bootBuiltins (Str.ofString "range") = some (.type "range")) (callWith_type1 ?_ s1 b1) (by decide +kernel) (by decide +kernel))
  refine thn ((pa_cons he pa_nil s1).run p3 pins s σ H (fun vs H1 => ∃ x, vs = [x] ∧ ∃ n : Nat, x = .int (n : Int) ∧ n ≤ 1000 ∧ ∀ l, H1 l = none → Q (.ref l) (upd H1 l (.lst ((List.range n).map fun i => V.int ((i : Nat) : Int))))) I ?_) fun us s3 ⟨vs, H1, I1, r1, q1⟩ => ?_
  · exact h
  obtain ⟨x, rfl, n, rfl, hn, q⟩ := q1
  cases r1 with
  | cons a b =>
    cases b
    obtain ⟨tk, rfl⟩ := a
    refine call_range_1 ?_
    refine Calls.spliced_nil ?_
    have I2 : Inv X pins σ H1 { s3 with heap := s3.heap.push { cls := .type "range", data := .fields #[.int 0 s3.toks, .int n tk, .int 1 (s3.toks + 1)] }, toks := s3.toks + 1 + 1 } := I1.kept (t' := s3.toks + 1 + 1) fun b ob e => Heap.get?_push_of_some _ e
    obtain ⟨m1, m2⟩ := rng_small n (by omega)
    refine call_list_range (I2.ok.hd hc) (Heap.get?_push_size _ rfl) m1 m2 (by omega) fun h' tk' acc' c' hk hl hi => ?_
    refine ⟨.ref _, _, I2.laid (t' := tk') (o := .lst ((List.range n).map fun i => V.int ((i : Nat) : Int))) hk (Nat.le_refl _) ?_, rfl, q _ (I2.hok.fresh (Nat.le_refl _))⟩
    refine ⟨Nat.le_trans (show _ ≤ 1000 by simpa using hn) (by decide +kernel), acc'.toList, c', vals_rng (by rw [Array.length_toList]; exact hi.1) fun j v hj => hi.2 j v (by simpa using hj), by rw [Array.toArray_toList]; exact hl⟩
end MB

set_option maxHeartbeats 4000000
namespace MB
open PySem PySem.Spec PyProof.Rows L2
def topS (i : Nat) : Stmt := PySem.Challenge.pw_mergebudget_k12_indexes_within_budgets.main.body.getD i (.Pass ⟨0, 0, 0, 0⟩)
abbrev s_is_int : Stmt := topS 10
abbrev N_is_int : List Str := ["value"]
theorem sc_is_int : FnScope N_is_int ["value"] (defScope s_is_int) := ⟨rfl, rfl, rfl, by decide +kernel, rfl, by decide +kernel, by decide +kernel⟩
abbrev s_is_count : Stmt := topS 11
abbrev N_is_count : List Str := ["value"]
theorem sc_is_count : FnScope N_is_count ["value"] (defScope s_is_count) := ⟨rfl, rfl, rfl, by decide +kernel, rfl, by decide +kernel, by decide +kernel⟩
abbrev s_is_count_up_to : Stmt := topS 12
abbrev N_is_count_up_to : List Str := ["value", "most"]
theorem sc_is_count_up_to : FnScope N_is_count_up_to ["value", "most"] (defScope s_is_count_up_to) := ⟨rfl, rfl, rfl, by decide +kernel, rfl, by decide +kernel, by decide +kernel⟩
abbrev s_check_budgets : Stmt := topS 13
abbrev N_check_budgets : List Str := ["k", "c", "most", "budget"]
theorem sc_check_budgets : FnScope N_check_budgets ["k", "c", "most"] (defScope s_check_budgets) := ⟨rfl, rfl, rfl, by decide +kernel, rfl, by decide +kernel, by decide +kernel⟩
abbrev s_is_schedule : Stmt := topS 16
abbrev N_is_schedule : List Str := ["value", "runs", "merge"]
theorem sc_is_schedule : FnScope N_is_schedule ["value"] (defScope s_is_schedule) := ⟨rfl, rfl, rfl, by decide +kernel, rfl, by decide +kernel, by decide +kernel⟩
abbrev s_stacks : Stmt := topS 17
abbrev N_stacks : List Str := ["schedule", "stack", "result", "flush", "merge"]
theorem sc_stacks : FnScope N_stacks ["schedule"] (defScope s_stacks) := ⟨rfl, rfl, rfl, by decide +kernel, rfl, by decide +kernel, by decide +kernel⟩
abbrev s_stack_after : Stmt := topS 18
abbrev N_stack_after : List Str := ["stack", "flush", "merge", "kept", "start"]
theorem sc_stack_after : FnScope N_stack_after ["stack", "flush", "merge"] (defScope s_stack_after) := ⟨rfl, rfl, rfl, by decide +kernel, rfl, by decide +kernel, by decide +kernel⟩
abbrev s_writes : Stmt := topS 19
abbrev N_writes : List Str := ["schedule", "history", "counts", "stack", "start", "stop", "flush"]
theorem sc_writes : FnScope N_writes ["schedule"] (defScope s_writes) := ⟨rfl, rfl, rfl, by decide +kernel, rfl, by decide +kernel, by decide +kernel⟩
abbrev s_run_counts : Stmt := topS 20
abbrev N_run_counts : List Str := ["schedule", "stack"]
theorem sc_run_counts : FnScope N_run_counts ["schedule"] (defScope s_run_counts) := ⟨rfl, rfl, rfl, by decide +kernel, rfl, by decide +kernel, by decide +kernel⟩
abbrev s_runs_at_end : Stmt := topS 21
abbrev N_runs_at_end : List Str := ["schedule"]
theorem sc_runs_at_end : FnScope N_runs_at_end ["schedule"] (defScope s_runs_at_end) := ⟨rfl, rfl, rfl, by decide +kernel, rfl, by decide +kernel, by decide +kernel⟩
abbrev s_check_flushes : Stmt := topS 23
abbrev N_check_flushes : List Str := ["n"]
theorem sc_check_flushes : FnScope N_check_flushes ["n"] (defScope s_check_flushes) := ⟨rfl, rfl, rfl, by decide +kernel, rfl, by decide +kernel, by decide +kernel⟩
abbrev s_counts_within : Stmt := topS 24
abbrev N_counts_within : List Str := ["n", "k", "c", "counts", "b", "a", "most"]
theorem sc_counts_within : FnScope N_counts_within ["n", "k", "c"] (defScope s_counts_within) := ⟨rfl, rfl, rfl, by decide +kernel, rfl, by decide +kernel, by decide +kernel⟩
abbrev s_counts_by_size : Stmt := topS 25
abbrev N_counts_by_size : List Str := ["lefts", "rights", "counts", "below", "left", "right"]
theorem sc_counts_by_size : FnScope N_counts_by_size ["lefts", "rights"] (defScope s_counts_by_size) := ⟨rfl, rfl, rfl, by decide +kernel, rfl, by decide +kernel, by decide +kernel⟩
abbrev s_index_within : Stmt := topS 26
abbrev N_index_within : List Str := ["schedule", "k", "c"]
theorem sc_index_within : FnScope N_index_within ["schedule", "k", "c"] (defScope s_index_within) := ⟨rfl, rfl, rfl, by decide +kernel, rfl, by decide +kernel, by decide +kernel⟩
abbrev s_place_of : Stmt := topS 27
abbrev N_place_of : List Str := ["schedule", "b", "a", "counts", "root", "below", "lefts", "rights", "smaller_root", "smaller_left", "other"]
theorem sc_place_of : FnScope N_place_of ["schedule", "b", "a", "counts"] (defScope s_place_of) := ⟨rfl, rfl, rfl, by decide +kernel, rfl, by decide +kernel, by decide +kernel⟩
abbrev s_root_of : Stmt := topS 28
abbrev N_root_of : List Str := ["schedule", "root", "runs", "flush", "merge"]
theorem sc_root_of : FnScope N_root_of ["schedule"] (defScope s_root_of) := ⟨rfl, rfl, rfl, by decide +kernel, rfl, by decide +kernel, by decide +kernel⟩
abbrev s_schedule_within : Stmt := topS 29
abbrev N_schedule_within : List Str := ["n", "k", "c", "index", "counts"]
theorem sc_schedule_within : FnScope N_schedule_within ["n", "k", "c", "index"] (defScope s_schedule_within) := ⟨rfl, rfl, rfl, by decide +kernel, rfl, by decide +kernel, by decide +kernel⟩
abbrev s_schedule_in_place : Stmt := topS 30
abbrev N_schedule_in_place : List Str := ["n", "b", "a", "place", "counts", "lefts", "rights", "root", "before", "left_place", "right_place", "left", "right"]
theorem sc_schedule_in_place : FnScope N_schedule_in_place ["n", "b", "a", "place", "counts"] (defScope s_schedule_in_place) := ⟨rfl, rfl, rfl, by decide +kernel, rfl, by decide +kernel, by decide +kernel⟩
abbrev s_L_pot : Stmt := topS 32
abbrev N_L_pot : List Str := ["_law_script", "_law_place", "_law_cell", "_law_digits"]
theorem sc_L_pot : FnScope N_L_pot ["_law_script", "_law_place"] (defScope s_L_pot) := ⟨rfl, rfl, rfl, by decide +kernel, rfl, by decide +kernel, by decide +kernel⟩
abbrev s_L_take : Stmt := topS 33
abbrev N_L_take : List Str := ["_law_pot", "_law_size", "_law_digit", "_law_turn", "_law_prime", "_law_mixed"]
theorem sc_L_take : FnScope N_L_take ["_law_pot", "_law_size"] (defScope s_L_take) := ⟨rfl, rfl, rfl, by decide +kernel, rfl, by decide +kernel, by decide +kernel⟩
abbrev s_L_piles : Stmt := topS 34
abbrev N_L_piles : List Str := ["_law_plan", "_law_piles", "_law_found", "_law_flush", "_law_merge", "_law_newest", "_law_turn"]
theorem sc_L_piles : FnScope N_L_piles ["_law_plan"] (defScope s_L_piles) := ⟨rfl, rfl, rfl, by decide +kernel, rfl, by decide +kernel, by decide +kernel⟩
abbrev s_L_written : Stmt := topS 35
abbrev N_L_written : List Str := ["_law_plan", "_law_found", "_law_piles", "_law_flush"]
theorem sc_L_written : FnScope N_L_written ["_law_plan"] (defScope s_L_written) := ⟨rfl, rfl, rfl, by decide +kernel, rfl, by decide +kernel, by decide +kernel⟩
abbrev s_L_all : Stmt := topS 36
abbrev N_L_all : List Str := ["_law_size", "_law_found", "_law_flush", "_law_longer", "_law_plan", "_law_merge"]
theorem sc_L_all : FnScope N_L_all ["_law_size"] (defScope s_L_all) := ⟨rfl, rfl, rfl, by decide +kernel, rfl, by decide +kernel, by decide +kernel⟩
abbrev s_L_root : Stmt := topS 37
abbrev N_L_root : List Str := ["_law_plan", "_law_flush", "_law_piles"]
theorem sc_L_root : FnScope N_L_root ["_law_plan"] (defScope s_L_root) := ⟨rfl, rfl, rfl, by decide +kernel, rfl, by decide +kernel, by decide +kernel⟩
abbrev s_L_refusal : Stmt := topS 38
abbrev N_L_refusal : List Str := ["_law_ask", "_law_caught", "error", "_law_kinds"]
theorem sc_L_refusal : FnScope N_L_refusal ["_law_ask"] (defScope s_L_refusal) := ⟨rfl, rfl, rfl, by decide +kernel, rfl, by decide +kernel, by decide +kernel⟩
abbrev s_L_within : Stmt := topS 39
abbrev N_L_within : List Str := ["_law_plan", "_law_most_runs", "_law_most_writes", "_law_piles", "_law_often"]
theorem sc_L_within : FnScope N_L_within ["_law_plan", "_law_most_runs", "_law_most_writes"] (defScope s_L_within) := ⟨rfl, rfl, rfl, by decide +kernel, rfl, by decide +kernel, by decide +kernel⟩
abbrev s_L_key : Stmt := topS 40
abbrev N_L_key : List Str := ["_law_plan", "_law_root"]
theorem sc_L_key : FnScope N_L_key ["_law_plan"] (defScope s_L_key) := ⟨rfl, rfl, rfl, by decide +kernel, rfl, by decide +kernel, by decide +kernel⟩
abbrev s_L_right : Stmt := topS 41
abbrev N_L_right : List Str := ["_law_size", "_law_most_runs", "_law_most_writes", "_law_plans", "_law_inside", "_law_due", "_law_plan", "_law_at"]
theorem sc_L_right : FnScope N_L_right ["_law_size", "_law_most_runs", "_law_most_writes"] (defScope s_L_right) := ⟨rfl, rfl, rfl, by decide +kernel, rfl, by decide +kernel, by decide +kernel⟩
abbrev s_law : Stmt := topS 42
abbrev N_law : List Str := ["_law_script", "_law_most_runs", "_law_most_writes", "_law_place", "_law_pot", "_law_turn"]
theorem sc_law : FnScope N_law ["_law_script"] (defScope s_law) := ⟨rfl, rfl, rfl, by decide +kernel, rfl, by decide +kernel, by decide +kernel⟩
abbrev s_init_InvalidSchedule : Stmt := clsDef (topS 2)
abbrev N_init_InvalidSchedule : List Str := ["self", "value"]
theorem sc_init_InvalidSchedule : FnScope N_init_InvalidSchedule ["self", "value"] (defScope s_init_InvalidSchedule) := ⟨rfl, rfl, rfl, by decide +kernel, rfl, by decide +kernel, by decide +kernel⟩
abbrev s_init_InvalidTree : Stmt := clsDef (topS 3)
abbrev N_init_InvalidTree : List Str := ["self", "value"]
theorem sc_init_InvalidTree : FnScope N_init_InvalidTree ["self", "value"] (defScope s_init_InvalidTree) := ⟨rfl, rfl, rfl, by decide +kernel, rfl, by decide +kernel, by decide +kernel⟩
abbrev s_init_InvalidCount : Stmt := clsDef (topS 4)
abbrev N_init_InvalidCount : List Str := ["self", "value"]
theorem sc_init_InvalidCount : FnScope N_init_InvalidCount ["self", "value"] (defScope s_init_InvalidCount) := ⟨rfl, rfl, rfl, by decide +kernel, rfl, by decide +kernel, by decide +kernel⟩
abbrev s_init_InvalidIndex : Stmt := clsDef (topS 5)
abbrev N_init_InvalidIndex : List Str := ["self", "value"]
theorem sc_init_InvalidIndex : FnScope N_init_InvalidIndex ["self", "value"] (defScope s_init_InvalidIndex) := ⟨rfl, rfl, rfl, by decide +kernel, rfl, by decide +kernel, by decide +kernel⟩
abbrev s_init_InvalidBudget : Stmt := clsDef (topS 6)
abbrev N_init_InvalidBudget : List Str := ["self", "value"]
theorem sc_init_InvalidBudget : FnScope N_init_InvalidBudget ["self", "value"] (defScope s_init_InvalidBudget) := ⟨rfl, rfl, rfl, by decide +kernel, rfl, by decide +kernel, by decide +kernel⟩
abbrev s_init_OutsideBudget : Stmt := clsDef (topS 7)
abbrev N_init_OutsideBudget : List Str := ["self", "value"]
theorem sc_init_OutsideBudget : FnScope N_init_OutsideBudget ["self", "value"] (defScope s_init_OutsideBudget) := ⟨rfl, rfl, rfl, by decide +kernel, rfl, by decide +kernel, by decide +kernel⟩
set_option genInjectivity false in
set_option genSizeOfSpec false in
structure Tx (K : PySem.W.Frag) (mg : Str → Option Value) where
  a_is_int : Addr
  fd_is_int : FuncData
  f_is_int : Fun K "is_int" "is_int" s_is_int a_is_int fd_is_int
  g_is_int : mg "is_int" = some (.ref a_is_int)
  bd_is_int : Binds K fd_is_int ["value"] []
  a_is_count : Addr
  fd_is_count : FuncData
  f_is_count : Fun K "is_count" "is_count" s_is_count a_is_count fd_is_count
  g_is_count : mg "is_count" = some (.ref a_is_count)
  bd_is_count : Binds K fd_is_count ["value"] []
  a_is_count_up_to : Addr
  fd_is_count_up_to : FuncData
  f_is_count_up_to : Fun K "is_count_up_to" "is_count_up_to" s_is_count_up_to a_is_count_up_to fd_is_count_up_to
  g_is_count_up_to : mg "is_count_up_to" = some (.ref a_is_count_up_to)
  bd_is_count_up_to : Binds K fd_is_count_up_to ["value", "most"] []
  a_check_budgets : Addr
  fd_check_budgets : FuncData
  f_check_budgets : Fun K "check_budgets" "check_budgets" s_check_budgets a_check_budgets fd_check_budgets
  g_check_budgets : mg "check_budgets" = some (.ref a_check_budgets)
  bd_check_budgets : Binds K fd_check_budgets ["k", "c", "most"] []
  a_is_schedule : Addr
  fd_is_schedule : FuncData
  f_is_schedule : Fun K "is_schedule" "is_schedule" s_is_schedule a_is_schedule fd_is_schedule
  g_is_schedule : mg "is_schedule" = some (.ref a_is_schedule)
  bd_is_schedule : Binds K fd_is_schedule ["value"] []
  a_stacks : Addr
  fd_stacks : FuncData
  f_stacks : Fun K "stacks" "stacks" s_stacks a_stacks fd_stacks
  g_stacks : mg "stacks" = some (.ref a_stacks)
  bd_stacks : Binds K fd_stacks ["schedule"] []
  a_stack_after : Addr
  fd_stack_after : FuncData
  f_stack_after : Fun K "stack_after" "stack_after" s_stack_after a_stack_after fd_stack_after
  g_stack_after : mg "stack_after" = some (.ref a_stack_after)
  bd_stack_after : Binds K fd_stack_after ["stack", "flush", "merge"] []
  a_writes : Addr
  fd_writes : FuncData
  f_writes : Fun K "writes" "writes" s_writes a_writes fd_writes
  g_writes : mg "writes" = some (.ref a_writes)
  bd_writes : Binds K fd_writes ["schedule"] []
  a_run_counts : Addr
  fd_run_counts : FuncData
  f_run_counts : Fun K "run_counts" "run_counts" s_run_counts a_run_counts fd_run_counts
  g_run_counts : mg "run_counts" = some (.ref a_run_counts)
  bd_run_counts : Binds K fd_run_counts ["schedule"] []
  a_runs_at_end : Addr
  fd_runs_at_end : FuncData
  f_runs_at_end : Fun K "runs_at_end" "runs_at_end" s_runs_at_end a_runs_at_end fd_runs_at_end
  g_runs_at_end : mg "runs_at_end" = some (.ref a_runs_at_end)
  bd_runs_at_end : Binds K fd_runs_at_end ["schedule"] []
  a_check_flushes : Addr
  fd_check_flushes : FuncData
  f_check_flushes : Fun K "check_flushes" "check_flushes" s_check_flushes a_check_flushes fd_check_flushes
  g_check_flushes : mg "check_flushes" = some (.ref a_check_flushes)
  bd_check_flushes : Binds K fd_check_flushes ["n"] []
  a_counts_within : Addr
  fd_counts_within : FuncData
  f_counts_within : Fun K "counts_within" "counts_within" s_counts_within a_counts_within fd_counts_within
  g_counts_within : mg "counts_within" = some (.ref a_counts_within)
  bd_counts_within : Binds K fd_counts_within ["n", "k", "c"] []
  a_counts_by_size : Addr
  fd_counts_by_size : FuncData
  f_counts_by_size : Fun K "counts_by_size" "counts_by_size" s_counts_by_size a_counts_by_size fd_counts_by_size
  g_counts_by_size : mg "counts_by_size" = some (.ref a_counts_by_size)
  bd_counts_by_size : Binds K fd_counts_by_size ["lefts", "rights"] []
  a_index_within : Addr
  fd_index_within : FuncData
  f_index_within : Fun K "index_within" "index_within" s_index_within a_index_within fd_index_within
  g_index_within : mg "index_within" = some (.ref a_index_within)
  bd_index_within : Binds K fd_index_within ["schedule", "k", "c"] []
  a_place_of : Addr
  fd_place_of : FuncData
  f_place_of : Fun K "place_of" "place_of" s_place_of a_place_of fd_place_of
  g_place_of : mg "place_of" = some (.ref a_place_of)
  bd_place_of : Binds K fd_place_of ["schedule", "b", "a", "counts"] []
  a_root_of : Addr
  fd_root_of : FuncData
  f_root_of : Fun K "root_of" "root_of" s_root_of a_root_of fd_root_of
  g_root_of : mg "root_of" = some (.ref a_root_of)
  bd_root_of : Binds K fd_root_of ["schedule"] []
  a_schedule_within : Addr
  fd_schedule_within : FuncData
  f_schedule_within : Fun K "schedule_within" "schedule_within" s_schedule_within a_schedule_within fd_schedule_within
  g_schedule_within : mg "schedule_within" = some (.ref a_schedule_within)
  bd_schedule_within : Binds K fd_schedule_within ["n", "k", "c", "index"] []
  a_schedule_in_place : Addr
  fd_schedule_in_place : FuncData
  f_schedule_in_place : Fun K "schedule_in_place" "schedule_in_place" s_schedule_in_place a_schedule_in_place fd_schedule_in_place
  g_schedule_in_place : mg "schedule_in_place" = some (.ref a_schedule_in_place)
  bd_schedule_in_place : Binds K fd_schedule_in_place ["n", "b", "a", "place", "counts"] []
  kc_schedule_in_place_b_a_place_counts : KBinds K fd_schedule_in_place ["n", "b", "a", "place", "counts"] ["b", "a", "place", "counts"] (gQ 4) (gQ 4)
  a_L_pot : Addr
  fd_L_pot : FuncData
  f_L_pot : Fun K "_law_sched_pot" "_law_sched_pot" s_L_pot a_L_pot fd_L_pot
  g_L_pot : mg "_law_sched_pot" = some (.ref a_L_pot)
  bd_L_pot : Binds K fd_L_pot ["_law_script", "_law_place"] []
  a_L_take : Addr
  fd_L_take : FuncData
  f_L_take : Fun K "_law_sched_take" "_law_sched_take" s_L_take a_L_take fd_L_take
  g_L_take : mg "_law_sched_take" = some (.ref a_L_take)
  bd_L_take : Binds K fd_L_take ["_law_pot", "_law_size"] []
  a_L_piles : Addr
  fd_L_piles : FuncData
  f_L_piles : Fun K "_law_sched_piles" "_law_sched_piles" s_L_piles a_L_piles fd_L_piles
  g_L_piles : mg "_law_sched_piles" = some (.ref a_L_piles)
  bd_L_piles : Binds K fd_L_piles ["_law_plan"] []
  a_L_written : Addr
  fd_L_written : FuncData
  f_L_written : Fun K "_law_sched_written" "_law_sched_written" s_L_written a_L_written fd_L_written
  g_L_written : mg "_law_sched_written" = some (.ref a_L_written)
  bd_L_written : Binds K fd_L_written ["_law_plan"] []
  a_L_all : Addr
  fd_L_all : FuncData
  f_L_all : Fun K "_law_sched_all" "_law_sched_all" s_L_all a_L_all fd_L_all
  g_L_all : mg "_law_sched_all" = some (.ref a_L_all)
  bd_L_all : Binds K fd_L_all ["_law_size"] []
  a_L_root : Addr
  fd_L_root : FuncData
  f_L_root : Fun K "_law_sched_root" "_law_sched_root" s_L_root a_L_root fd_L_root
  g_L_root : mg "_law_sched_root" = some (.ref a_L_root)
  bd_L_root : Binds K fd_L_root ["_law_plan"] []
  a_L_refusal : Addr
  fd_L_refusal : FuncData
  f_L_refusal : Fun K "_law_sched_refusal" "_law_sched_refusal" s_L_refusal a_L_refusal fd_L_refusal
  g_L_refusal : mg "_law_sched_refusal" = some (.ref a_L_refusal)
  bd_L_refusal : Binds K fd_L_refusal ["_law_ask"] []
  a_L_within : Addr
  fd_L_within : FuncData
  f_L_within : Fun K "_law_sched_within" "_law_sched_within" s_L_within a_L_within fd_L_within
  g_L_within : mg "_law_sched_within" = some (.ref a_L_within)
  bd_L_within : Binds K fd_L_within ["_law_plan", "_law_most_runs", "_law_most_writes"] []
  a_L_key : Addr
  fd_L_key : FuncData
  f_L_key : Fun K "_law_sched_key" "_law_sched_key" s_L_key a_L_key fd_L_key
  g_L_key : mg "_law_sched_key" = some (.ref a_L_key)
  bd_L_key : Binds K fd_L_key ["_law_plan"] []
  a_L_right : Addr
  fd_L_right : FuncData
  f_L_right : Fun K "_law_sched_right" "_law_sched_right" s_L_right a_L_right fd_L_right
  g_L_right : mg "_law_sched_right" = some (.ref a_L_right)
  bd_L_right : Binds K fd_L_right ["_law_size", "_law_most_runs", "_law_most_writes"] []
  a_law : Addr
  fd_law : FuncData
  f_law : Fun K "law" "law" s_law a_law fd_law
  g_law : mg "law" = some (.ref a_law)
  bd_law : Binds K fd_law ["_law_script"] []
  b_isinstance : mg "isinstance" = none
  b_int : mg "int" = none
  b_bool : mg "bool" = none
  b_tuple : mg "tuple" = none
  b_len : mg "len" = none
  b_enumerate : mg "enumerate" = none
  b_range : mg "range" = none
  b_sum : mg "sum" = none
  b_max : mg "max" = none
  b_zip : mg "zip" = none
  b_divmod : mg "divmod" = none
  b_abs : mg "abs" = none
  b_list : mg "list" = none
  b_repr : mg "repr" = none
  b_ValueError : mg "ValueError" = none
  b_any : mg "any" = none
  b_all : mg "all" = none
  b_sorted : mg "sorted" = none
  b_min : mg "min" = none
  c_MergeBudgetError : Addr
  gc_MergeBudgetError : mg "MergeBudgetError" = some (.ref c_MergeBudgetError)
  kc_MergeBudgetError : PySem.W.keepIn K (.ref c_MergeBudgetError) = true
  xe_MergeBudgetError : ExcC K c_MergeBudgetError
  xf_MergeBudgetError : XfC K c_MergeBudgetError
  xi_MergeBudgetError : PySem.W.excIn K c_MergeBudgetError PySem.HandSPX.veTail "ValueError.__new__" = true
  c_InvalidSchedule : Addr
  gc_InvalidSchedule : mg "InvalidSchedule" = some (.ref c_InvalidSchedule)
  kc_InvalidSchedule : PySem.W.keepIn K (.ref c_InvalidSchedule) = true
  xe_InvalidSchedule : ExcC K c_InvalidSchedule
  xf_InvalidSchedule : XfC K c_InvalidSchedule
  ox_InvalidSchedule : OexC K c_InvalidSchedule
  no_InvalidSchedule : PySem.W.findIn K (.ref c_InvalidSchedule) "value" = some none
  fi_InvalidSchedule : Addr
  fdi_InvalidSchedule : FuncData
  ic_InvalidSchedule : PySem.W.findIn K (.ref c_InvalidSchedule) "__init__" = some (some (.ref fi_InvalidSchedule))
  ti_InvalidSchedule : PySem.W.typeIn K (.ref fi_InvalidSchedule) = some (.type "function")
  ui_InvalidSchedule : L2.Fun K "__init__" "InvalidSchedule.__init__" s_init_InvalidSchedule fi_InvalidSchedule fdi_InvalidSchedule
  bi_InvalidSchedule : Binds K fdi_InvalidSchedule ["self", "value"] []
  c_InvalidTree : Addr
  gc_InvalidTree : mg "InvalidTree" = some (.ref c_InvalidTree)
  kc_InvalidTree : PySem.W.keepIn K (.ref c_InvalidTree) = true
  xe_InvalidTree : ExcC K c_InvalidTree
  xf_InvalidTree : XfC K c_InvalidTree
  ox_InvalidTree : OexC K c_InvalidTree
  no_InvalidTree : PySem.W.findIn K (.ref c_InvalidTree) "value" = some none
  fi_InvalidTree : Addr
  fdi_InvalidTree : FuncData
  ic_InvalidTree : PySem.W.findIn K (.ref c_InvalidTree) "__init__" = some (some (.ref fi_InvalidTree))
  ti_InvalidTree : PySem.W.typeIn K (.ref fi_InvalidTree) = some (.type "function")
  ui_InvalidTree : L2.Fun K "__init__" "InvalidTree.__init__" s_init_InvalidTree fi_InvalidTree fdi_InvalidTree
  bi_InvalidTree : Binds K fdi_InvalidTree ["self", "value"] []
  c_InvalidCount : Addr
  gc_InvalidCount : mg "InvalidCount" = some (.ref c_InvalidCount)
  kc_InvalidCount : PySem.W.keepIn K (.ref c_InvalidCount) = true
  xe_InvalidCount : ExcC K c_InvalidCount
  xf_InvalidCount : XfC K c_InvalidCount
  ox_InvalidCount : OexC K c_InvalidCount
  no_InvalidCount : PySem.W.findIn K (.ref c_InvalidCount) "value" = some none
  fi_InvalidCount : Addr
  fdi_InvalidCount : FuncData
  ic_InvalidCount : PySem.W.findIn K (.ref c_InvalidCount) "__init__" = some (some (.ref fi_InvalidCount))
  ti_InvalidCount : PySem.W.typeIn K (.ref fi_InvalidCount) = some (.type "function")
  ui_InvalidCount : L2.Fun K "__init__" "InvalidCount.__init__" s_init_InvalidCount fi_InvalidCount fdi_InvalidCount
  bi_InvalidCount : Binds K fdi_InvalidCount ["self", "value"] []
  c_InvalidIndex : Addr
  gc_InvalidIndex : mg "InvalidIndex" = some (.ref c_InvalidIndex)
  kc_InvalidIndex : PySem.W.keepIn K (.ref c_InvalidIndex) = true
  xe_InvalidIndex : ExcC K c_InvalidIndex
  xf_InvalidIndex : XfC K c_InvalidIndex
  ox_InvalidIndex : OexC K c_InvalidIndex
  no_InvalidIndex : PySem.W.findIn K (.ref c_InvalidIndex) "value" = some none
  fi_InvalidIndex : Addr
  fdi_InvalidIndex : FuncData
  ic_InvalidIndex : PySem.W.findIn K (.ref c_InvalidIndex) "__init__" = some (some (.ref fi_InvalidIndex))
  ti_InvalidIndex : PySem.W.typeIn K (.ref fi_InvalidIndex) = some (.type "function")
  ui_InvalidIndex : L2.Fun K "__init__" "InvalidIndex.__init__" s_init_InvalidIndex fi_InvalidIndex fdi_InvalidIndex
  bi_InvalidIndex : Binds K fdi_InvalidIndex ["self", "value"] []
  c_InvalidBudget : Addr
  gc_InvalidBudget : mg "InvalidBudget" = some (.ref c_InvalidBudget)
  kc_InvalidBudget : PySem.W.keepIn K (.ref c_InvalidBudget) = true
  xe_InvalidBudget : ExcC K c_InvalidBudget
  xf_InvalidBudget : XfC K c_InvalidBudget
  ox_InvalidBudget : OexC K c_InvalidBudget
  no_InvalidBudget : PySem.W.findIn K (.ref c_InvalidBudget) "value" = some none
  fi_InvalidBudget : Addr
  fdi_InvalidBudget : FuncData
  ic_InvalidBudget : PySem.W.findIn K (.ref c_InvalidBudget) "__init__" = some (some (.ref fi_InvalidBudget))
  ti_InvalidBudget : PySem.W.typeIn K (.ref fi_InvalidBudget) = some (.type "function")
  ui_InvalidBudget : L2.Fun K "__init__" "InvalidBudget.__init__" s_init_InvalidBudget fi_InvalidBudget fdi_InvalidBudget
  bi_InvalidBudget : Binds K fdi_InvalidBudget ["self", "value"] []
  c_OutsideBudget : Addr
  gc_OutsideBudget : mg "OutsideBudget" = some (.ref c_OutsideBudget)
  kc_OutsideBudget : PySem.W.keepIn K (.ref c_OutsideBudget) = true
  xe_OutsideBudget : ExcC K c_OutsideBudget
  xf_OutsideBudget : XfC K c_OutsideBudget
  ox_OutsideBudget : OexC K c_OutsideBudget
  no_OutsideBudget : PySem.W.findIn K (.ref c_OutsideBudget) "value" = some none
  fi_OutsideBudget : Addr
  fdi_OutsideBudget : FuncData
  ic_OutsideBudget : PySem.W.findIn K (.ref c_OutsideBudget) "__init__" = some (some (.ref fi_OutsideBudget))
  ti_OutsideBudget : PySem.W.typeIn K (.ref fi_OutsideBudget) = some (.type "function")
  ui_OutsideBudget : L2.Fun K "__init__" "OutsideBudget.__init__" s_init_OutsideBudget fi_OutsideBudget fdi_OutsideBudget
  bi_OutsideBudget : Binds K fdi_OutsideBudget ["self", "value"] []
  kits : kitB K [c_InvalidSchedule, c_InvalidTree, c_InvalidCount, c_InvalidIndex, c_InvalidBudget, c_OutsideBudget] c_MergeBudgetError = true
  kitn : [c_InvalidSchedule, c_InvalidTree, c_InvalidCount, c_InvalidIndex, c_InvalidBudget, c_OutsideBudget].Nodup
  kitz : c_MergeBudgetError ∉ [c_InvalidSchedule, c_InvalidTree, c_InvalidCount, c_InvalidIndex, c_InvalidBudget, c_OutsideBudget]
  cdl_L_right : Addr
  ptl_L_right : Addr
  lawc_L_right : ∃ (oc : Value) (od : Option Addr) (kV doc pm : Value) (an : Option Addr) (ct : Value) (osl : Array (Option Value)), fd_L_right = PySem.W.fnOf "_law_sched_right" "_law_sched_right" (defArgs s_L_right) (defBody s_L_right) (defScope s_L_right) .none kV doc pm an (.ref cdl_L_right) ct ∧ K.lookup a_L_right = some ⟨oc, od, .func fd_L_right, osl⟩ ∧ PySem.W.codeIn K (.ref cdl_L_right) "_law_sched_right" = true
  t_MOST_BUDGET : Tok
  c_MOST_BUDGET : mg "MOST_BUDGET" = some (.int (60) t_MOST_BUDGET)
  t_MOST_FLUSHES : Tok
  c_MOST_FLUSHES : mg "MOST_FLUSHES" = some (.int (60) t_MOST_FLUSHES)
/-- no int, or a bool -/
def NotJ (K : PySem.W.Frag) (H : Hp) (x : V) : Prop := ∃ T b1 b2, TyX K H x (.type T) ∧ L2.kitB T "int" = some b1 ∧ L2.kitB T "bool" = some b2 ∧ (b1 && !b2) = false
theorem tyx_same {K : PySem.W.Frag} {H H' : Hp} (s : Same H H') {x : V} {t : Value} (h : TyX K H x t) : TyX K H' x t := by
  cases h with
  | base h =>
    cases h with
    | non => exact .base .non
    | bl x => exact .base (.bl x)
    | int i => exact .base (.int i)
    | str x => exact .base (.str x)
    | flt x => exact .base (.flt x)
    | lst e => exact .base (.lst (s _ _ e))
    | frz e => exact .base (.frz (s _ _ e))
    | tup e => exact .base (.tup (s _ _ e))
    | dK e => exact .base (.dK (s _ _ e))
    | dT e => exact .base (.dT (s _ _ e))
    | ins e c1 c2 c3 c4 c5 => exact .base (.ins (s _ _ e) c1 c2 c3 c4 c5)
  | byt b => exact .byt b
  | set e => exact .set (s _ _ e)
  | kList e c => exact .kList e c
  | kTuple e c => exact .kTuple e c
  | kDict e c => exact .kDict e c
  | fTuple e => exact .fTuple (s _ _ e)
  | fDict e => exact .fDict (s _ _ e)
section
variable {P : Program} {w : World} {K : PySem.W.Frag} {mg : Str → Option Value} {base : Heap}
def sp_is_intD (K : PySem.W.Frag) : Sp := fun vs H Q _ => ∃ x T b1 b2, vs = [x] ∧ TyX K H x (.type T) ∧ L2.kitB T "int" = some b1 ∧ L2.kitB T "bool" = some b2 ∧ Q (.bl (b1 && !b2)) H
theorem ok_is_intD (TX : Tx K mg) : FnOk P w K mg base CX0 1 TX.a_is_int TX.fd_is_int ["value"] (sp_is_intD K) := by
  refine TX.f_is_int.ok sc_is_int (fun vs H Q E h => ?_) (fun cdv A outer s H vs Q E hr h => ?_)
  · obtain ⟨x, T, b1, b2, rfl, _⟩ := h; rfl
  · obtain ⟨x, T, b1, b2, rfl, hT, h1, h2, q⟩ := h
    refine ⟨_, (pss_one (ps_ret (pe_and (pe_callB (id := "isinstance") (k_isi (K := K) rfl) (by rfl) TX.b_isinstance (by decide +kernel) (pa_cons (pv 0) (pa_cons (pe_bltn (v := .ty "int") (by rfl) TX.b_int (by decide +kernel) rfl) pa_nil))) (pe_one (pe_not (pe_callB (id := "isinstance") (k_isi (K := K) rfl) (by rfl) TX.b_isinstance (by decide +kernel) (pa_cons (pv 0) (pa_cons (pe_bltn (v := .ty "bool") (by rfl) TX.b_bool (by decide +kernel) rfl) pa_nil)))))))), ?_⟩
    refine ⟨x, rfl, x, .ty "int", .type T, .type "int", b1, rfl, .ty _, hT, kit_ty h1, b1, rfl, ?_⟩
    cases b1 with
    | false => exact iteF q
    | true => exact iteT ⟨x, rfl, x, .ty "bool", .type T, .type "bool", b2, rfl, .ty _, hT, kit_ty h2, b2, rfl, q⟩
def sp_is_count (K : PySem.W.Frag) : Sp := fun vs H Q _ => ∃ x, vs = [x] ∧ ((∃ i, x = .int i ∧ Q (.bl (decide (0 ≤ i))) H) ∨ (NotJ K H x ∧ Q (.bl false) H))
theorem ok_is_count (TX : Tx K mg) : FnOk P w K mg base CX0 2 TX.a_is_count TX.fd_is_count ["value"] (sp_is_count K) := by
  refine TX.f_is_count.ok sc_is_count (fun vs H Q E h => ?_) (fun cdv A outer s H vs Q E hr h => ?_)
  · obtain ⟨x, rfl, _⟩ := h; rfl
  · obtain ⟨x, rfl, hx⟩ := h
    refine ⟨_, (pss_one (ps_ret (pe_and (pe_call (ok_is_intD TX) (hr.mono (by decide)) (by rfl) TX.g_is_int TX.f_is_int.kp TX.bd_is_int .nil pass0 (pa_cons (pv 0) pa_nil)) (pe_one (pe_cmpR op_ge (pv 0) pe_int (nomark _)))))), ?_⟩
    rcases hx with ⟨i, rfl, q⟩ | ⟨⟨T, b1, b2, hT, h1, h2, hb⟩, q⟩
    · exact ⟨_, rfl, .int i, "int", true, false, rfl, .base (.int i), by decide +kernel, by decide +kernel, true, rfl, iteT ⟨_, rfl, _, _, rfl, rfl, q⟩⟩
    · refine ⟨_, rfl, x, T, b1, b2, rfl, hT, h1, h2, ?_⟩
      rw [hb]
      exact ⟨false, rfl, iteF q⟩
def sp_is_count_up_to (K : PySem.W.Frag) : Sp := fun vs H Q _ => ∃ x m, vs = [x, .int m] ∧ ((∃ i, x = .int i ∧ Q (.bl (decide (0 ≤ i) && decide (i ≤ m))) H) ∨ (NotJ K H x ∧ Q (.bl false) H))
theorem ok_is_count_up_to (TX : Tx K mg) : FnOk P w K mg base CX0 3 TX.a_is_count_up_to TX.fd_is_count_up_to ["value", "most"] (sp_is_count_up_to K) := by
  refine TX.f_is_count_up_to.ok sc_is_count_up_to (fun vs H Q E h => ?_) (fun cdv A outer s H vs Q E hr h => ?_)
  · obtain ⟨x, m, rfl, _⟩ := h; rfl
  · obtain ⟨x, m, rfl, hx⟩ := h
    refine ⟨_, (pss_one (ps_ret (pe_and (pe_call (ok_is_count TX) (hr.mono (by decide)) (by rfl) TX.g_is_count TX.f_is_count.kp TX.bd_is_count .nil pass0 (pa_cons (pv 0) pa_nil)) (pe_one (pe_cmpR op_le (pv 0) (pv 1) (nomark _)))))), ?_⟩
    rcases hx with ⟨i, rfl, q⟩ | ⟨hN, q⟩
    · refine ⟨_, rfl, _, rfl, .inl ⟨i, rfl, _, rfl, ?_⟩⟩
      by_cases h0 : 0 ≤ i
      · rw [decide_eq_true h0] at q ⊢
        exact iteT ⟨_, rfl, _, rfl, _, _, rfl, rfl, q⟩
      · rw [decide_eq_false h0] at q ⊢
        exact iteF q
    · exact ⟨_, rfl, _, rfl, .inr ⟨hN, _, rfl, iteF q⟩⟩
theorem ok_init_InvalidSchedule (TX : Tx K mg) : FnOk P w K mg base CX0 1 TX.fi_InvalidSchedule TX.fdi_InvalidSchedule ["self", "value"] (sp_init K TX.c_InvalidSchedule "value") := by
  refine TX.ui_InvalidSchedule.ok sc_init_InvalidSchedule (fun vs H Q E h => ?_) (fun cdv A outer s H vs Q E hr h => ?_)
  · obtain ⟨a, y, rfl, _⟩ := h; rfl
  · obtain ⟨a, y, rfl, ha, q⟩ := h
    exact ⟨_, (pss_one (ps_ost (pv 0) (pv 1))), y, rfl, .ref a, rfl, a, TX.c_InvalidSchedule, rfl, TX.ox_InvalidSchedule, TX.no_InvalidSchedule, .inl ⟨ha, fun dx n ne => q dx n ne⟩⟩
theorem ok_init_InvalidTree (TX : Tx K mg) : FnOk P w K mg base CX0 1 TX.fi_InvalidTree TX.fdi_InvalidTree ["self", "value"] (sp_init K TX.c_InvalidTree "value") := by
  refine TX.ui_InvalidTree.ok sc_init_InvalidTree (fun vs H Q E h => ?_) (fun cdv A outer s H vs Q E hr h => ?_)
  · obtain ⟨a, y, rfl, _⟩ := h; rfl
  · obtain ⟨a, y, rfl, ha, q⟩ := h
    exact ⟨_, (pss_one (ps_ost (pv 0) (pv 1))), y, rfl, .ref a, rfl, a, TX.c_InvalidTree, rfl, TX.ox_InvalidTree, TX.no_InvalidTree, .inl ⟨ha, fun dx n ne => q dx n ne⟩⟩
theorem ok_init_InvalidCount (TX : Tx K mg) : FnOk P w K mg base CX0 1 TX.fi_InvalidCount TX.fdi_InvalidCount ["self", "value"] (sp_init K TX.c_InvalidCount "value") := by
  refine TX.ui_InvalidCount.ok sc_init_InvalidCount (fun vs H Q E h => ?_) (fun cdv A outer s H vs Q E hr h => ?_)
  · obtain ⟨a, y, rfl, _⟩ := h; rfl
  · obtain ⟨a, y, rfl, ha, q⟩ := h
    exact ⟨_, (pss_one (ps_ost (pv 0) (pv 1))), y, rfl, .ref a, rfl, a, TX.c_InvalidCount, rfl, TX.ox_InvalidCount, TX.no_InvalidCount, .inl ⟨ha, fun dx n ne => q dx n ne⟩⟩
theorem ok_init_InvalidIndex (TX : Tx K mg) : FnOk P w K mg base CX0 1 TX.fi_InvalidIndex TX.fdi_InvalidIndex ["self", "value"] (sp_init K TX.c_InvalidIndex "value") := by
  refine TX.ui_InvalidIndex.ok sc_init_InvalidIndex (fun vs H Q E h => ?_) (fun cdv A outer s H vs Q E hr h => ?_)
  · obtain ⟨a, y, rfl, _⟩ := h; rfl
  · obtain ⟨a, y, rfl, ha, q⟩ := h
    exact ⟨_, (pss_one (ps_ost (pv 0) (pv 1))), y, rfl, .ref a, rfl, a, TX.c_InvalidIndex, rfl, TX.ox_InvalidIndex, TX.no_InvalidIndex, .inl ⟨ha, fun dx n ne => q dx n ne⟩⟩
theorem ok_init_InvalidBudget (TX : Tx K mg) : FnOk P w K mg base CX0 1 TX.fi_InvalidBudget TX.fdi_InvalidBudget ["self", "value"] (sp_init K TX.c_InvalidBudget "value") := by
  refine TX.ui_InvalidBudget.ok sc_init_InvalidBudget (fun vs H Q E h => ?_) (fun cdv A outer s H vs Q E hr h => ?_)
  · obtain ⟨a, y, rfl, _⟩ := h; rfl
  · obtain ⟨a, y, rfl, ha, q⟩ := h
    exact ⟨_, (pss_one (ps_ost (pv 0) (pv 1))), y, rfl, .ref a, rfl, a, TX.c_InvalidBudget, rfl, TX.ox_InvalidBudget, TX.no_InvalidBudget, .inl ⟨ha, fun dx n ne => q dx n ne⟩⟩
theorem ok_init_OutsideBudget (TX : Tx K mg) : FnOk P w K mg base CX0 1 TX.fi_OutsideBudget TX.fdi_OutsideBudget ["self", "value"] (sp_init K TX.c_OutsideBudget "value") := by
  refine TX.ui_OutsideBudget.ok sc_init_OutsideBudget (fun vs H Q E h => ?_) (fun cdv A outer s H vs Q E hr h => ?_)
  · obtain ⟨a, y, rfl, _⟩ := h; rfl
  · obtain ⟨a, y, rfl, ha, q⟩ := h
    exact ⟨_, (pss_one (ps_ost (pv 0) (pv 1))), y, rfl, .ref a, rfl, a, TX.c_OutsideBudget, rfl, TX.ox_OutsideBudget, TX.no_OutsideBudget, .inl ⟨ha, fun dx n ne => q dx n ne⟩⟩
/-- a budget, or none -/
def Bud (m : Int) (x : V) : Prop := ∃ i, x = .int i ∧ 0 ≤ i ∧ i ≤ m
def NoBud (K : PySem.W.Frag) (H : Hp) (m : Int) (x : V) : Prop := (∃ i, x = .int i ∧ (decide (0 ≤ i) && decide (i ≤ m)) = false) ∨ NotJ K H x
theorem bud_no {H : Hp} {m : Int} {x : V} (h : Bud m x) (n : NoBud K H m x) : False := by
  obtain ⟨i, rfl, h1, h2⟩ := h
  rcases n with ⟨j, e, hj⟩ | ⟨T, b1, b2, hT, k1, k2, hb⟩
  · cases e
    rw [decide_eq_true h1, decide_eq_true h2] at hj
    cases hj
  · have eT : T = "int" := by
      cases hT with
      | base h => cases h; rfl
    subst eT
    have e1 : L2.kitB "int" "int" = some true := by decide +kernel
    have e2 : L2.kitB "int" "bool" = some false := by decide +kernel
    rw [e1] at k1
    rw [e2] at k2
    cases k1
    cases k2
    cases hb
def sp_check_budgets (TX : Tx K mg) : Sp := fun vs H Q E => ∃ (x y : V) (m : Int), vs = [x, y, .int m] ∧
  ((Bud m x ∧ Bud m y ∧ ∀ H', Same H H' → Q .non H') ∨ (∃ z, ((NoBud K H m x ∧ z = x) ∨ (Bud m x ∧ (∀ H', Same H H' → NoBud K H' m y) ∧ z = y)) ∧ ∀ d H', Same H H' → H' d = some (.xd [("value", z)]) → E (.ref TX.c_InvalidBudget) (some d) H'))
theorem ok_check_budgets (TX : Tx K mg) : FnOk P w K mg base (L2.CX P w) 4 TX.a_check_budgets TX.fd_check_budgets ["k", "c", "most"] (sp_check_budgets TX) := by
  refine TX.f_check_budgets.okX sc_check_budgets (fun vs H Q E h => ?_) (fun cdv A outer s H vs Q E hr h => ?_)
  · obtain ⟨x, y, m, rfl, _⟩ := h; rfl
  · obtain ⟨x, y, m, rfl, hx⟩ := h
    refine ⟨_, (pss_one (ps_for (passes_of rfl) rfl (k_piT (K := K) rfl (pe_tup (pa_cons (pv 0) (pa_cons (pv 1) pa_nil)))) (pg_name (i := 3) sc_check_budgets.nd rfl (.inl rfl))
        (pss_one (ps_if (pt_not (pt_val (pe_call (ok_is_count_up_to TX) (hr.mono (by decide)) (by rfl) TX.g_is_count_up_to TX.f_is_count_up_to.kp TX.bd_is_count_up_to .nil pass0 (pa_cons (pv 3) (pa_cons (pv 2) pa_nil)))))
          (pss_one (ps_raise rfl takesX (pmk_oex TX.ox_InvalidBudget TX.ic_InvalidBudget TX.ti_InvalidBudget (ok_init_InvalidBudget TX) (hr.mono (by decide)) TX.bi_InvalidBudget .nil pass0 (by rfl) TX.gc_InvalidBudget (pa_cons (pv 3) pa_nil))))
          pss_nil)))), ?_⟩
    refine ⟨_, rfl, _, rfl, sz60 (by simp), fun t nt => ?_⟩
    have zt := same_upd (o := .tup [x, y]) nt
    have ht : SqT K (upd H t (.tup [x, y])) t [x, y] := .inl (.inl upd_same)
    generalize upd H t (.tup [x, y]) = G at zt ht
    refine ⟨t, rfl, ⟨_, ht⟩, for_tup (K := K) (xs := [x, y]) (fun i σ H' => ∃ y3, σ = [some x, some y, some (.int m), y3] ∧ Same G H' ∧ (1 ≤ i → Bud m x) ∧ (2 ≤ i → Bud m y)) ⟨_, rfl, Same.refl _, by omega, by omega⟩ (fun i σ H' _ h => by obtain ⟨_, _, h, _⟩ := h; exact Same.tup h ht) ?_ ?_⟩
    · rintro i e σ G1 hv ⟨y3, rfl, s1, b1, b2⟩
      have hi2 : i < 2 := (List.getElem?_eq_some_iff.mp hv).1
      have hcase : Bud m e ∨ (NoBud K G1 m e ∧ ∀ d H', Same H H' → H' d = some (.xd [("value", e)]) → E (.ref TX.c_InvalidBudget) (some d) H') := by
        have h01 : i = 0 ∨ i = 1 := by omega
        rcases h01 with rfl | rfl
        · cases hv
          rcases hx with ⟨a1, _, _⟩ | ⟨z, (⟨a1, rfl⟩ | ⟨a1, _, _⟩), q⟩
          · exact .inl a1
          · refine .inr ⟨?_, q⟩
            rcases a1 with a1 | ⟨T, c1, c2, hT, r⟩
            · exact .inl a1
            · exact .inr ⟨T, c1, c2, tyx_same (zt.trans s1) hT, r⟩
          · exact .inl a1
        · cases hv
          rcases hx with ⟨_, a1, _⟩ | ⟨z, (⟨a1, rfl⟩ | ⟨_, a1, rfl⟩), q⟩
          · exact .inl a1
          · exact (bud_no (b1 (by omega)) a1).elim
          · exact .inr ⟨a1 _ (zt.trans s1), q⟩
      have nextB : Bud m e → (1 ≤ i + 1 → Bud m x) ∧ (2 ≤ i + 1 → Bud m y) := fun hb => by
        have h01 : i = 0 ∨ i = 1 := by omega
        rcases h01 with rfl | rfl
        · cases hv; exact ⟨fun _ => hb, by omega⟩
        · cases hv; exact ⟨fun _ => b1 (by omega), fun _ => hb⟩
      rcases hcase with hb | ⟨hn, q⟩
      · obtain ⟨j, rfl, h1, h2⟩ := id hb
        refine ⟨_, rfl, _, rfl, .int j, m, rfl, .inl ⟨j, rfl, true, ?_, iteF ⟨_, rfl, s1, nextB hb⟩⟩⟩
        rw [decide_eq_true h1, decide_eq_true h2]; rfl
      · have fin : ∀ G2, Same G1 G2 → tMkO TX.c_InvalidBudget (sp_init K TX.c_InvalidBudget (Str.ofString "value")) [] (tCons (tVar 3) tNil) [some x, some y, some (.int m), some e] G2 fun cls d H' => E cls d H' := fun G2 s2 => by
          refine raise_read (K := K) ⟨e, rfl, e, rfl, fun d H2 s3 _ hd => q d H2 ((zt.trans s1).trans (s2.trans s3)) hd⟩ fun R R' h z => ?_
          obtain ⟨v, e1, z⟩ := z
          exact ⟨v, e1, h _ _ z⟩
        rcases hn with ⟨j, rfl, hj⟩ | hn
        · refine ⟨_, rfl, _, rfl, .int j, m, rfl, .inl ⟨j, rfl, false, by rw [hj], iteT ?_⟩⟩
          exact fin _ (Same.refl _)
        · refine ⟨_, rfl, _, rfl, e, m, rfl, .inr ⟨hn, false, rfl, iteT ?_⟩⟩
          exact fin _ (Same.refl _)
    · rintro σ G1 ⟨y3, rfl, s1, b1, b2⟩
      have c1 := b1 (by simp)
      have c2 := b2 (by simp)
      rcases hx with ⟨_, _, q⟩ | ⟨z, (⟨a1, rfl⟩ | ⟨_, a1, rfl⟩), q⟩
      · exact q _ (zt.trans s1)
      · exact (bud_no c1 a1).elim
      · exact (bud_no c2 (a1 _ zt)).elim
end
theorem u65 {k : Nat} {A : Around} (r : Room k A) : A.units + 65 < cLine := by have := r.un; omega
section
variable {P : Program} {w : World} {K : PySem.W.Frag} {mg : Str → Option Value} {base : Heap}
/-- what met makes of a call: the names of the five classes in their order -/
def metC (TX : Tx K mg) : List Addr := [TX.c_InvalidSchedule, TX.c_InvalidTree, TX.c_InvalidCount, TX.c_InvalidIndex, TX.c_InvalidBudget, TX.c_OutsideBudget]
def metN : List Str := ["schedule", "tree", "count", "index", "budget", "outside"]
def TMet (TX : Tx K mg) : (XK → Hp → VK → Prop) → Hp → VK → Prop := fun tl H Q => ∀ H1, Same H H1 → ∀ (E' : XK) (R : VK),
  (∀ (i : Nat) (C dd : Addr) (x : Str) (v : V) (d : PyData) (H' : Hp), (metC TX)[i]? = some C → metN[i]? = some x → H' dd = some (.xd [("value", v)]) → Dq K H' v d → d.showable = true → d.depth ≤ 60 → d.shown.length ≤ sizeLine → (∀ H'' t, Same H' H'' → H'' t = some (.tup [.str x, .str d.shown]) → Q (.ref t) H'') → E' (.ref C) (some dd) H') →
  (∀ (v : V) (H' : Hp), (∀ H'', Same H' H'' → Q .non H'') → R v H') → tl E' H1 R
theorem exm_of (TX : Tx K mg) {C : Addr} (h : C ∈ metC TX) : PySem.W.exmOne K (.ref C) (.ref TX.c_MergeBudgetError) = some true := by
  have hm : C ∈ [TX.c_InvalidSchedule, TX.c_InvalidTree, TX.c_InvalidCount, TX.c_InvalidIndex, TX.c_InvalidBudget, TX.c_OutsideBudget] := by
    unfold metC at h
    simp only [List.mem_cons, List.not_mem_nil, or_false] at h ⊢
    rcases h with rfl | rfl | rfl | rfl | rfl | rfl <;> simp
  obtain ⟨_, k2, _⟩ := kitB_ok TX.kits hm
  have hne : C ≠ TX.c_MergeBudgetError := fun e => TX.kitz (by rw [← e]; exact hm)
  unfold PySem.W.exmOne
  rw [if_pos (by rw [TX.xf_MergeBudgetError.exC]; rfl)]
  unfold PySem.W.kitOne at k2
  rw [if_neg (fun z => hne (by have z2 : Value.ref C = Value.ref TX.c_MergeBudgetError := beq_iff_eq.mp z; cases z2; rfl))] at k2
  exact k2
theorem met_kit (TX : Tx K mg) {i j : Nat} {C D : Addr} (hi : (metC TX)[i]? = some C) (hj : (metC TX)[j]? = some D) : PySem.W.kitOne K (.ref C) (.ref D) = some (decide (i = j)) := by
  have mem : ∀ {C : Addr}, C ∈ metC TX → C ∈ [TX.c_InvalidSchedule, TX.c_InvalidTree, TX.c_InvalidCount, TX.c_InvalidIndex, TX.c_InvalidBudget, TX.c_OutsideBudget] := fun {C} h => by
    unfold metC at h
    simp only [List.mem_cons, List.not_mem_nil, or_false] at h ⊢
    rcases h with rfl | rfl | rfl | rfl | rfl | rfl <;> simp
  obtain ⟨k1, _, _⟩ := kitB_ok TX.kits (mem (List.mem_of_getElem? hi))
  rw [k1 D (mem (List.mem_of_getElem? hj))]
  have nd : (metC TX).Nodup := by
    have := TX.kitn
    unfold metC
    exact this
  congr 1
  by_cases e : i = j
  · subst e
    rw [hi] at hj
    cases hj
    simp
  · have : C ≠ D := fun z => by
      subst z
      obtain ⟨q1, r1⟩ := List.getElem?_eq_some_iff.mp hi
      obtain ⟨q2, r2⟩ := List.getElem?_eq_some_iff.mp hj
      exact e ((List.getElem_inj nd).mp (r1.trans r2.symm))
    rw [decide_eq_false e]
    simpa using this
theorem met_exc (TX : Tx K mg) {C : Addr} (h : C ∈ metC TX) : ExcC K C ∧ XfC K C ∧ PySem.W.findIn K (.ref C) "value" = some none ∧ PySem.W.kitOne K (.ref C) (.type "ValueError") = some true := by
  have hm : C ∈ [TX.c_InvalidSchedule, TX.c_InvalidTree, TX.c_InvalidCount, TX.c_InvalidIndex, TX.c_InvalidBudget, TX.c_OutsideBudget] := by
    unfold metC at h
    simp only [List.mem_cons, List.not_mem_nil, or_false] at h ⊢
    rcases h with rfl | rfl | rfl | rfl | rfl | rfl <;> simp
  obtain ⟨_, _, k3⟩ := kitB_ok TX.kits hm
  unfold metC at h
  simp only [List.mem_cons, List.not_mem_nil, or_false] at h
  rcases h with rfl | rfl | rfl | rfl | rfl | rfl
  · exact ⟨TX.xe_InvalidSchedule, TX.xf_InvalidSchedule, TX.no_InvalidSchedule, k3⟩
  · exact ⟨TX.xe_InvalidTree, TX.xf_InvalidTree, TX.no_InvalidTree, k3⟩
  · exact ⟨TX.xe_InvalidCount, TX.xf_InvalidCount, TX.no_InvalidCount, k3⟩
  · exact ⟨TX.xe_InvalidIndex, TX.xf_InvalidIndex, TX.no_InvalidIndex, k3⟩
  · exact ⟨TX.xe_InvalidBudget, TX.xf_InvalidBudget, TX.no_InvalidBudget, k3⟩
  · exact ⟨TX.xe_OutsideBudget, TX.xf_OutsideBudget, TX.no_OutsideBudget, k3⟩
end
def TTs {K : PySem.W.Frag} {mg : Str → Option Value} (TX : Tx K mg) : List (Addr × Str) := [(TX.ptl_L_right, Str.ofString "_law_sched_right" ++ ".<locals>." ++ "<lambda>")]
section
variable {P : Program} {w : World} {K : PySem.W.Frag} {mg : Str → Option Value} {base : Heap}
theorem met_gives_R (TX : Tx K mg) {cdv cdg : Value} {A : Around} {outer : List Env} {s0 : Shared} {H0 : Hp} {E : XK} {q : Str} {n : Nat} (hr0 : Room (n + 1) (cxOf CX0 P w K mg base N_L_right (Str.ofString "_law_sched_right") (defScope s_L_right) TX.a_L_right cdv A outer s0 H0 E).nox.A) (hgd0 : A.guards = some []) :
    GivesE (cxOf CX0 P w K mg base N_L_right (Str.ofString "_law_sched_right") (defScope s_L_right) TX.a_L_right cdv A outer s0 H0 E).nox N_L_refusal "_law_sched_refusal" (defScope s_L_refusal) TX.a_L_refusal cdg (defBody s_L_refusal) "_law_ask" q (TMet TX) := by
  intro f c' s H Q tl act hc h
  have hgd : (cxOf CX0 P w K mg base N_L_right (Str.ofString "_law_sched_right") (defScope s_L_right) TX.a_L_right cdv A outer s0 H0 E).nox.A.guards = some [] := hgd0
  have hr := hr0.deeper (envOfC "_law_sched_refusal" (defScope s_L_refusal) s.heap.objs.size TX.a_L_refusal cdg)
  have HB : ∀ (p1 p2 p3 : PySem.Pos) (W : WX) (pn : List (Addr × Obj)) (xe : Value → Shared → Prop), Takes ((cxOf CX0 P w K mg base N_L_refusal "_law_sched_refusal" (defScope s_L_refusal) TX.a_L_refusal cdg (cxOf CX0 P w K mg base N_L_right (Str.ofString "_law_sched_right") (defScope s_L_right) TX.a_L_right cdv A outer s0 H0 E).nox.A (cxOf CX0 P w K mg base N_L_right (Str.ofString "_law_sched_right") (defScope s_L_right) TX.a_L_right cdv A outer s0 H0 E).nox.stack s H E0).nox.tr pn xe) W →
      PassesOwn (model P w) (cxOf CX0 P w K mg base N_L_refusal "_law_sched_refusal" (defScope s_L_refusal) TX.a_L_refusal cdg (cxOf CX0 P w K mg base N_L_right (Str.ofString "_law_sched_right") (defScope s_L_right) TX.a_L_right cdv A outer s0 H0 E).nox.A (cxOf CX0 P w K mg base N_L_right (Str.ofString "_law_sched_right") (defScope s_L_right) TX.a_L_right cdv A outer s0 H0 E).nox.stack s H E0).nox.A (cxOf CX0 P w K mg base N_L_refusal "_law_sched_refusal" (defScope s_L_refusal) TX.a_L_refusal cdg (cxOf CX0 P w K mg base N_L_right (Str.ofString "_law_sched_right") (defScope s_L_right) TX.a_L_right cdv A outer s0 H0 E).nox.A (cxOf CX0 P w K mg base N_L_right (Str.ofString "_law_sched_right") (defScope s_L_right) TX.a_L_right cdv A outer s0 H0 E).nox.stack s H E0).nox.env xe →
      PSs ((cxOf CX0 P w K mg base N_L_refusal "_law_sched_refusal" (defScope s_L_refusal) TX.a_L_refusal cdg (cxOf CX0 P w K mg base N_L_right (Str.ofString "_law_sched_right") (defScope s_L_right) TX.a_L_right cdv A outer s0 H0 E).nox.A (cxOf CX0 P w K mg base N_L_right (Str.ofString "_law_sched_right") (defScope s_L_right) TX.a_L_right cdv A outer s0 H0 E).nox.stack s H E0).nox.tr pn xe) [.Expr (.Call (.Name "_law_ask" p1) [] [] p2) p3]
        (fun D σ H' => ∃ Ech : XK, (∀ cls d H'', Ech cls d H'' → W cls d σ H'') ∧ σ[0]? = some (some (.ref f)) ∧ H' c' = some (LamX.CodeO c' q) ∧ tl Ech H' fun _ H'' => D.nx σ H'') := fun p1 p2 p3 W pn xe tk _ => by
    refine ⟨fun pins s' σ H' D I h' => ?_⟩
    obtain ⟨Ech, hW, h1, h2, h3⟩ := h'
    have hp := act W pn xe Ech p1 p2 tk
    have hq := pss_one (ps_expr (pos := p3) hp)
    exact hq.run pins s' σ H' D I ⟨h1, h2, hW, h3⟩
  refine ⟨_, (pss_cons (ps_set (i := 1) sc_L_refusal.nd rfl (.inl rfl) pe_non)
      (pss_cons (ps_try_kept (c := .ref TX.c_MergeBudgetError) (i := 2) rfl rfl sc_L_refusal.nd rfl rfl ⟨by rfl, by decide, .inl TX.gc_MergeBudgetError⟩ (HB _ _ _) (fun _ _ _ _ _ _ _ => (pss_one (ps_set (i := 1) sc_L_refusal.nd rfl (.inl rfl) (pv 2)))))
      (pss_cons (ps_if (pt_cmpR op_isN (pv 1) pe_non (nomark _))
        (pss_one (ps_ret pe_non))
        pss_nil)
      (pss_cons (ps_set (i := 3) sc_L_refusal.nd rfl (.inl rfl) (pe_lst (pa_cons (pe_callB (id := "isinstance") call_isX (by rfl) TX.b_isinstance (by decide +kernel) (pa_cons (pv 1) (pa_cons (pe_glob (v := .ref TX.c_InvalidSchedule) (by rfl) TX.gc_InvalidSchedule rfl) pa_nil))) (pa_cons (pe_callB (id := "isinstance") call_isX (by rfl) TX.b_isinstance (by decide +kernel) (pa_cons (pv 1) (pa_cons (pe_glob (v := .ref TX.c_InvalidTree) (by rfl) TX.gc_InvalidTree rfl) pa_nil))) (pa_cons (pe_callB (id := "isinstance") call_isX (by rfl) TX.b_isinstance (by decide +kernel) (pa_cons (pv 1) (pa_cons (pe_glob (v := .ref TX.c_InvalidCount) (by rfl) TX.gc_InvalidCount rfl) pa_nil))) pa_nil)))))
      (pss_cons (ps_set (i := 3) sc_L_refusal.nd rfl (.inl rfl) (pe_op op_cat (pv 3) (pe_lst (pa_cons (pe_callB (id := "isinstance") call_isX (by rfl) TX.b_isinstance (by decide +kernel) (pa_cons (pv 1) (pa_cons (pe_glob (v := .ref TX.c_InvalidIndex) (by rfl) TX.gc_InvalidIndex rfl) pa_nil))) (pa_cons (pe_callB (id := "isinstance") call_isX (by rfl) TX.b_isinstance (by decide +kernel) (pa_cons (pv 1) (pa_cons (pe_glob (v := .ref TX.c_InvalidBudget) (by rfl) TX.gc_InvalidBudget rfl) pa_nil))) pa_nil)))))
      (pss_cons (ps_expr (pe_bm PySem.F.plainAttrs_list PySem.F.slot_list_append PySem.F.type_list_append mt_append (pv 3) (pa_cons (pe_callB (id := "isinstance") call_isX (by rfl) TX.b_isinstance (by decide +kernel) (pa_cons (pv 1) (pa_cons (pe_glob (v := .ref TX.c_OutsideBudget) (by rfl) TX.gc_OutsideBudget rfl) pa_nil))) pa_nil)))
      (pss_cons (ps_if (PW.pt (pw_or (pt_cmpR op_ne (pe_bm PySem.F.plainAttrs_list PySem.F.slot_list_count PySem.F.type_list_count (mt_countB (u65 hr)) (pv 3) (pa_cons pe_bl pa_nil)) pe_int (nomark _)) (pw_or1 (pt_not (pt_val (pe_callB (id := "isinstance") call_isX (by rfl) TX.b_isinstance (by decide +kernel) (pa_cons (pv 1) (pa_cons (pe_bltn (v := .ty "ValueError") (by rfl) TX.b_ValueError (by decide +kernel) rfl) pa_nil))))))))
        (pss_one (ps_ret (pe_tup (pa_cons pe_str (pa_cons pe_str pa_nil)))))
        pss_nil)
      (pss_one (ps_ret (pe_tup (pa_cons (pe_ix (k_ixL (K := K) rfl) (pe_lst (pa_cons pe_str (pa_cons pe_str (pa_cons pe_str (pa_cons pe_str (pa_cons pe_str (pa_cons pe_str pa_nil))))))) (pe_bm PySem.F.plainAttrs_list PySem.F.slot_list_index PySem.F.type_list_index mt_index (pv 3) (pa_cons pe_bl pa_nil)) (fun _ _ => rfl)) (pa_cons (pe_callB (id := "repr") (k_reprQ (K := K) rfl hgd hr.units) (by rfl) TX.b_repr (by decide +kernel) (pa_cons (pe_xv (pv 1)) pa_nil)) pa_nil)))))))))))), ?_⟩
  refine ⟨fun cls dd' H' => ∃ (i : Nat) (C dd : Addr) (x : Str) (v : V) (d : PyData), (metC TX)[i]? = some C ∧ metN[i]? = some x ∧ cls = .ref C ∧ dd' = some dd ∧ H' dd = some (.xd [("value", v)]) ∧ (Dq K H' v d ∧ d.showable = true ∧ d.depth ≤ 60 ∧ d.shown.length ≤ sizeLine) ∧ ∀ H'' t, Same H' H'' → H'' t = some (.tup [.str x, .str d.shown]) → Q (.ref t) H'', ?_, rfl, hc, h _ (Same.refl _) _ _ (fun i C dd x v d H' a1 a2 a3 b1 b2 b3 b4 a4 => ⟨i, C, dd, x, v, d, a1, a2, rfl, rfl, a3, ⟨b1, b2, b3, b4⟩, a4⟩) fun v H' q => ?_⟩
  rotate_left
  · refine ⟨_, rfl, rfl, _, rfl, iteB1 (by rfl) ?_⟩
    exact q _ (Same.refl _)
  rintro cls d' H' ⟨i, C, dd, x, v, d, hi, hx, rfl, rfl, hdd, ⟨hq1, hq2, hq3, hq4⟩, q⟩
  have hmem := List.mem_of_getElem? hi
  obtain ⟨x1, x2, x3, x4⟩ := met_exc TX hmem
  refine ⟨exm_of TX hmem, fun a na => ⟨_, rfl, ?_⟩⟩
  have za := same_upd (o := KeO a (.ref C) (some dd)) na
  have hX : XAt (upd H' a (KeO a (.ref C) (some dd))) a C (some [("value", v)]) := .keptd upd_same (za _ _ hdd)
  refine ⟨_, rfl, rfl, _, rfl, iteB0 (by rfl) ?_⟩
  have kit := fun j D hj => met_kit TX (j := j) (D := D) hi hj
  have hi6 : i < 6 := (List.getElem?_eq_some_iff.mp hi).1
  refine ⟨_, rfl, a, C, _, _, _, decide (i = 0), rfl, .own _, hX, x1, kit 0 _ rfl, _, rfl, a, C, _, _, _, decide (i = 1), rfl, .own _, hX, x1, kit 1 _ rfl, _, rfl, a, C, _, _, _, decide (i = 2), rfl, .own _, hX, x1, kit 2 _ rfl, sz60 (by simp), fun l1 n1 => ?_⟩
  have z1 := same_upd (o := .lst [V.bl (decide (i = 0)), V.bl (decide (i = 1)), V.bl (decide (i = 2))]) n1
  have hX1 := hX.same z1
  refine ⟨_, rfl, _, rfl, a, C, _, _, _, decide (i = 3), rfl, .own _, hX1, x1, kit 3 _ rfl, _, rfl, a, C, _, _, _, decide (i = 4), rfl, .own _, hX1, x1, kit 4 _ rfl, sz60 (by simp), fun l2 n2 => ?_⟩
  have z2 := same_upd (o := .lst [V.bl (decide (i = 3)), V.bl (decide (i = 4))]) n2
  refine ⟨l1, l2, _, _, rfl, rfl, z2 _ _ upd_same, upd_same, sz60 (by simp), fun l3 n3 => ?_⟩
  have sX : Same H' _ := za.trans (z1.trans z2)
  have hXX := hX.same (z1.trans z2)
  generalize upd (upd (upd H' a (KeO a (.ref C) (some dd))) l1 _) l2 _ = X at *
  clear z1 z2 hX1 hX n1 n2 na za
  have z3 := same_upd (o := .lst ([V.bl (decide (i = 0)), V.bl (decide (i = 1)), V.bl (decide (i = 2))] ++ [V.bl (decide (i = 3)), V.bl (decide (i = 4))])) n3
  refine ⟨_, rfl, .inl ⟨rfl, _, .inl (.inl upd_same)⟩, _, rfl, a, C, _, _, _, decide (i = 5), rfl, .own _, hXX.same z3, x1, kit 5 _ rfl, l3, _, _, rfl, rfl, upd_same, sz61 (by simp), ?_⟩
  rw [upd_upd]
  clear z3
  obtain ⟨bs, hbs⟩ : ∃ bs : List Bool, bs = [decide (i = 0), decide (i = 1), decide (i = 2), decide (i = 3), decide (i = 4), decide (i = 5)] := ⟨_, rfl⟩
  have ebs : [V.bl (decide (i = 0)), V.bl (decide (i = 1)), V.bl (decide (i = 2))] ++ [V.bl (decide (i = 3)), V.bl (decide (i = 4))] ++ [V.bl (decide (i = 5))] = bs.map V.bl := by rw [hbs]; rfl
  rw [ebs]
  have z3 := same_upd (o := .lst (bs.map V.bl)) n3
  have hX3 := hXX.same z3
  have hl3 : (upd X l3 (.lst (bs.map V.bl))) l3 = some (.lst (bs.map V.bl)) := upd_same
  have s03 := sX.trans z3
  generalize upd X l3 _ = G at *
  have h6 : i = 0 ∨ i = 1 ∨ i = 2 ∨ i = 3 ∨ i = 4 ∨ i = 5 := by omega
  have hcount : bs.countP id = 1 := by
    rw [hbs]
    rcases h6 with rfl | rfl | rfl | rfl | rfl | rfl <;> rfl
  have hat : (bs.map V.bl)[i]? = some (V.bl true) := by
    rw [hbs]
    rcases h6 with rfl | rfl | rfl | rfl | rfl | rfl <;> rfl
  have hbef : ∀ (m : Nat) (z' : V), m < i → (bs.map V.bl)[m]? = some z' → eqV z' (.bl true) = false := fun m z' hm hz => by
    have e : (bs.map V.bl)[m]? = some (V.bl false) := by
      rw [hbs]
      have h5 : m = 0 ∨ m = 1 ∨ m = 2 ∨ m = 3 ∨ m = 4 := by omega
      rcases h5 with rfl | rfl | rfl | rfl | rfl
      · show some (V.bl (decide (i = 0))) = _; rw [decide_eq_false (by omega)]
      · show some (V.bl (decide (i = 1))) = _; rw [decide_eq_false (by omega)]
      · show some (V.bl (decide (i = 2))) = _; rw [decide_eq_false (by omega)]
      · show some (V.bl (decide (i = 3))) = _; rw [decide_eq_false (by omega)]
      · show some (V.bl (decide (i = 4))) = _; rw [decide_eq_false (by omega)]
    rw [e] at hz
    cases hz
    rfl
  have hfl : ∀ l : List Bool, (l.map V.bl).all flatV = true := fun l => by
    induction l with
    | nil => rfl
    | cons b l ih => simp only [List.map_cons, List.all_cons, ih, Bool.and_true]; rfl
  refine ⟨_, rfl, .inl ⟨rfl, _, .inl (.inl hl3)⟩, l3, bs, rfl, rfl, .inl (.inl hl3), rfl, _, rfl, iteB0 (by rw [hcount]; rfl) ?_⟩
  refine ⟨_, rfl, a, C, _, .ty "ValueError", .type "ValueError", true, rfl, .ty _, hX3, x1, x4, true, rfl, iteF ?_⟩
  refine ⟨sz60 (by simp), fun l4 n4 => ?_⟩
  have z4 := same_upd (o := .lst [V.str "schedule", V.str "tree", V.str "count", V.str "index", V.str "budget", V.str "outside"]) n4
  have hx' : [V.str "schedule", V.str "tree", V.str "count", V.str "index", V.str "budget", V.str "outside"][i]? = some (V.str x) := by
    unfold metN at hx
    rcases h6 with rfl | rfl | rfl | rfl | rfl | rfl <;> (cases hx; rfl)
  refine ⟨_, rfl, .inl ⟨rfl, _, .inl (.inl (z4 _ _ hl3))⟩, l3, _, .bl true, i, _, rfl, rfl, .inl (.inl (z4 _ _ hl3)), rfl, hfl bs, hat, rfl, hbef, l4, _, _, _, rfl, rfl, .inl (.inl upd_same), atI_nat hx', ?_⟩
  refine ⟨_, rfl, a, C, [("value", v)], v, rfl, hX3.same z4, x2, x3, rfl, v, d, rfl, Dq.same (s03.trans z4) hq1, hq2, hq3, hq4, sz60 (by simp), fun t1 n1 => ?_⟩
  exact q _ t1 ((s03.trans z4).trans (same_upd n1)) upd_same
end
section
variable {P : Program} {w : World} {K : PySem.W.Frag} {mg : Str → Option Value} {base : Heap}
/-- the context of the law's own body -/
abbrev lawX_R (P : Program) (w : World) (K : PySem.W.Frag) (mg : Str → Option Value) (base : Heap) (f : Addr) (cd : Value) (A : Around) (outer : List Env) (s : Shared) (H : Hp) (E : XK) : Cx := (cxOf CX0 P w K mg base N_L_right (Str.ofString "_law_sched_right") (defScope s_L_right) f cd A outer s H E).nox
theorem passLw_R {P : Program} {w : World} {K : PySem.W.Frag} {mg : Str → Option Value} {base : Heap} {f : Addr} {cd : Value} {A : Around} {outer : List Env} {s : Shared} {H : Hp} {E E' : XK} {A' : Around} {outer' : List Env} {s' : Shared} {H' : Hp} {scope : Scope} {f' c' : Addr} :
    Passes (L2.CX P w) (LamX.lamCx (lawX_R P w K mg base f cd A outer s H E) A' outer' s' H' E' scope f' c') E' := passL' (X := lawX_R P w K mg base f cd A outer s H E)
/-- met(lambda: body), within the law -/
theorem pe_met_R (TX : Tx K mg) {A : Around} {outer : List Env} {s0 : Shared} {H0 : Hp} {E0' : XK} {n : Nat} (TB : LamX.TabB base mg TX.cdl_L_right TX.ptl_L_right) (hr : Room (n + 2) (lawX_R P w K mg base TX.a_L_right (.ref TX.cdl_L_right) A outer s0 H0 E0').A)
    (hgd : A.guards = some []) {params : Arguments} {body : Expr} {scope : Scope} {t : XK → TE} {p lpos pos : PySem.Pos} (L : LamX.LamS (defScope s_L_right) scope) (hdef : defaultsOf params (lawX_R P w K mg base TX.a_L_right (.ref TX.cdl_L_right) A outer s0 H0 E0').env = ([], []))
    (hbind : ∀ (q : Str) (cl : List (Str × Addr)) (pm cv ctv : Value), bindArgs (PySem.W.kla_fn "<lambda>" q params body scope cl pm cv ctv) ⟨[], []⟩ = pure [])
    (hbody : ∀ (A' : Around) (outer' : List Env) (s : Shared) (H : Hp) (E : XK) (f c' : Addr), Room n (A'.deeper (LamX.lamEnv (lawX_R P w K mg base TX.a_L_right (.ref TX.cdl_L_right) A outer s0 H0 E0') scope s.heap.objs.size f c')) → PE (LamX.lamCx (lawX_R P w K mg base TX.a_L_right (.ref TX.cdl_L_right) A outer s0 H0 E0') A' outer' s H E scope f c') body (t E)) :
    PE (lawX_R P w K mg base TX.a_L_right (.ref TX.cdl_L_right) A outer s0 H0 E0') (.Call (.Name "_law_sched_refusal" p) [.Lambda params body scope lpos] [] pos) (LamX.tLam (TTs TX) (TMet TX) t) := by
  obtain ⟨oc, od, kV, doc, pm, an, cdm, ct, osl, efd, lkm, hcm⟩ := TX.f_L_refusal.ex
  have hb := TX.bd_L_refusal
  rw [efd] at hb lkm
  exact pe_lamE (by rfl) TX.g_L_refusal TX.f_L_refusal.kp lkm hcm hb sc_L_refusal rfl (.inl rfl) (met_gives_R TX (n := n + 1) hr hgd) TB rfl (List.mem_singleton.mpr rfl) (fun q hq _ => by rw [List.mem_singleton.mp hq]; rfl) hr L hdef hbind hbody
end
section
variable {P : Program} {w : World} {K : PySem.W.Frag} {mg : Str → Option Value} {base : Heap}
def sp_is_intN (K : PySem.W.Frag) : Sp := fun vs H Q _ => ∃ i : Int, vs = [.int i] ∧ Q (.bl true) H
theorem ok_is_intN (TX : Tx K mg) : FnOk P w K mg base CX0 1 TX.a_is_int TX.fd_is_int ["value"] (sp_is_intN K) := by
  refine TX.f_is_int.ok sc_is_int (fun vs H Q E h => ?_) (fun cdv A outer s H vs Q E hr h => ?_)
  · obtain ⟨i, rfl, _⟩ := h; rfl
  · obtain ⟨i, rfl, q⟩ := h
    refine ⟨_, (pss_one (ps_ret (pe_and (pe_callB (id := "isinstance") (k_isi (K := K) rfl) (by rfl) TX.b_isinstance (by decide +kernel) (pa_cons (pv 0) (pa_cons (pe_bltn (v := .ty "int") (by rfl) TX.b_int (by decide +kernel) rfl) pa_nil))) (pe_one (pe_not (pe_callB (id := "isinstance") (k_isi (K := K) rfl) (by rfl) TX.b_isinstance (by decide +kernel) (pa_cons (pv 0) (pa_cons (pe_bltn (v := .ty "bool") (by rfl) TX.b_bool (by decide +kernel) rfl) pa_nil)))))))), ?_⟩
    refine ⟨.int i, rfl, .int i, .ty "int", .type "int", .type "int", true, rfl, .ty _, .base (.int i), kit_ty (by decide +kernel), true, rfl, ?_⟩
    exact iteT ⟨.int i, rfl, .int i, .ty "bool", .type "int", .type "bool", false, rfl, .ty _, .base (.int i), kit_ty (by decide +kernel), false, rfl, q⟩
def sp_is_countN (K : PySem.W.Frag) : Sp := fun vs H Q _ => ∃ i : Int, vs = [.int i] ∧ Q (.bl (decide (0 ≤ i))) H
theorem ok_is_countN (TX : Tx K mg) : FnOk P w K mg base CX0 2 TX.a_is_count TX.fd_is_count ["value"] (sp_is_countN K) := by
  refine TX.f_is_count.ok sc_is_count (fun vs H Q E h => ?_) (fun cdv A outer s H vs Q E hr h => ?_)
  · obtain ⟨i, rfl, _⟩ := h; rfl
  · obtain ⟨i, rfl, q⟩ := h
    refine ⟨_, (pss_one (ps_ret (pe_and (pe_call (ok_is_intN TX) (hr.mono (by decide)) (by rfl) TX.g_is_int TX.f_is_int.kp TX.bd_is_int .nil pass0 (pa_cons (pv 0) pa_nil)) (pe_one (pe_cmpR op_ge (pv 0) pe_int (nomark _)))))), ?_⟩
    exact ⟨.int i, rfl, i, rfl, true, rfl, iteT ⟨.int i, rfl, i, 0, rfl, rfl, q⟩⟩
def sp_is_count_up_toN (K : PySem.W.Frag) : Sp := fun vs H Q _ => ∃ i m : Int, vs = [.int i, .int m] ∧ Q (.bl (decide (0 ≤ i) && decide (i ≤ m))) H
theorem ok_is_count_up_toN (TX : Tx K mg) : FnOk P w K mg base CX0 3 TX.a_is_count_up_to TX.fd_is_count_up_to ["value", "most"] (sp_is_count_up_toN K) := by
  refine TX.f_is_count_up_to.ok sc_is_count_up_to (fun vs H Q E h => ?_) (fun cdv A outer s H vs Q E hr h => ?_)
  · obtain ⟨i, m, rfl, _⟩ := h; rfl
  · obtain ⟨i, m, rfl, q⟩ := h
    refine ⟨_, (pss_one (ps_ret (pe_and (pe_call (ok_is_countN TX) (hr.mono (by decide)) (by rfl) TX.g_is_count TX.f_is_count.kp TX.bd_is_count .nil pass0 (pa_cons (pv 0) pa_nil)) (pe_one (pe_cmpR op_le (pv 0) (pv 1) (nomark _)))))), ?_⟩
    refine ⟨.int i, rfl, i, rfl, _, rfl, ?_⟩
    by_cases h0 : 0 ≤ i
    · rw [decide_eq_true h0] at q ⊢
      exact iteT ⟨.int i, rfl, .int m, rfl, i, m, rfl, rfl, q⟩
    · rw [decide_eq_false h0] at q ⊢
      exact iteF q
def sp_is_scheduleN (K : PySem.W.Frag) : Sp := fun vs H Q _ => ∃ (a : Addr) (t : T), vs = [.ref a] ∧ SqT K H a (vi t.sch) ∧ t.size ≤ 60 ∧ Q (.bl true) H
theorem ok_is_scheduleN (TX : Tx K mg) : FnOk P w K mg base CX0 4 TX.a_is_schedule TX.fd_is_schedule ["value"] (sp_is_scheduleN K) := by
  refine TX.f_is_schedule.ok sc_is_schedule (fun vs H Q E h => ?_) (fun cdv A outer s H vs Q E hr h => ?_)
  · obtain ⟨a, t, rfl, _⟩ := h; rfl
  · obtain ⟨a, t, rfl, hS, hz, q⟩ := h
    have hlen : (vi t.sch).length = t.size := by rw [vi_len, T.sch_len]
    refine ⟨_, (pss_cons (ps_if (PW.pt (pw_or (pt_not (pt_val (pe_callB (id := "isinstance") (k_isi (K := K) rfl) (by rfl) TX.b_isinstance (by decide +kernel) (pa_cons (pv 0) (pa_cons (pe_bltn (v := .ty "tuple") (by rfl) TX.b_tuple (by decide +kernel) rfl) pa_nil))))) (pw_or1 (pt_cmpR op_gt (pe_callB (id := "len") (k_len (K := K) rfl) (by rfl) TX.b_len (by decide +kernel) (pa_cons (pv 0) pa_nil)) (pe_glob (v := .int (60)) (by rfl) TX.c_MOST_FLUSHES ⟨_, rfl⟩) (nomark _)))))
        (pss_one (ps_ret pe_bl))
        pss_nil)
      (pss_cons (ps_set (i := 1) sc_is_schedule.nd rfl (.inl rfl) pe_int)
      (pss_cons (ps_for PassesOwn.never rfl (k_piT (K := K) rfl (pv 0)) (pg_name (i := 2) sc_is_schedule.nd rfl (.inl rfl))
        (pss_cons (ps_if (pt_not (pt_val (pe_call (ok_is_count_up_toN TX) (hr.mono (by decide)) (by rfl) TX.g_is_count_up_to TX.f_is_count_up_to.kp TX.bd_is_count_up_to .nil pass0 (pa_cons (pv 2) (pa_cons (pv 1) pa_nil)))))
          (pss_one (ps_ret pe_bl))
          pss_nil)
        (pss_one (ps_set (i := 1) sc_is_schedule.nd rfl (.inl rfl) (pe_op op_add (pe_op op_sub (pv 1) (pv 2)) pe_int)))))
      (pss_one (ps_ret pe_bl))))), ?_⟩
    refine ⟨.ref a, rfl, .ref a, .ty "tuple", .type "tuple", .type "tuple", true, rfl, .ty _, ty_tup hS, kit_ty (by decide +kernel), true, rfl, iteF ⟨.ref a, rfl, a, _, rfl, .inr hS, _, _, rfl, rfl, _, rfl, decF (by rw [hlen]; omega) ?_⟩⟩
    refine ⟨.ref a, rfl, a, rfl, ⟨_, hS⟩, for_tup (K := K) (xs := vi t.sch) (fun i σ H' => H' = H ∧ ∃ y2, σ = [some (.ref a), some (.int ((pre t i).runs : Int)), y2] ) ⟨rfl, none, rfl⟩ (fun i σ H' _ h => by rw [h.1]; exact hS) ?_ ?_⟩
    · rintro i x σ H' hx ⟨rfl, y2, rfl⟩
      have hi : i < t.sch.length := by
        have := (List.getElem?_eq_some_iff.mp hx).1
        rwa [vi_len] at this
      have hm := List.getElem?_eq_getElem hi
      rw [vi_get hm] at hx
      cases hx
      obtain ⟨e1, h1⟩ := pre_succ hm
      have e2 := T.push_runs _ _ h1
      refine ⟨_, rfl, _, rfl, _, _, rfl, true, ?_, iteF ⟨_, rfl, _, rfl, _, _, rfl, rfl, _, _, rfl, rfl, rfl, some (.int (t.sch[i] : Int)), ?_⟩⟩
      · rw [decide_eq_true (by omega), decide_eq_true (by omega)]; rfl
      · rw [e1, e2]
        show [_, _, _] = [_, _, _]
        simp only [Int.natCast_add, Int.natCast_sub h1]
        rfl
    · rintro σ H' ⟨rfl, y2, rfl⟩
      exact q
end
section
variable {P : Program} {w : World} {K : PySem.W.Frag} {mg : Str → Option Value} {base : Heap}
def sp_check_budgetsN (K : PySem.W.Frag) : Sp := fun vs H Q _ => ∃ k c m : Int, vs = [.int k, .int c, .int m] ∧ 0 ≤ k ∧ k ≤ m ∧ 0 ≤ c ∧ c ≤ m ∧ ∀ H', Same H H' → Q .non H'
theorem ok_check_budgetsN (TX : Tx K mg) : FnOk P w K mg base CX0 4 TX.a_check_budgets TX.fd_check_budgets ["k", "c", "most"] (sp_check_budgetsN K) := by
  refine TX.f_check_budgets.ok sc_check_budgets (fun vs H Q E h => ?_) (fun cdv A outer s H vs Q E hr h => ?_)
  · obtain ⟨k, c, m, rfl, _⟩ := h; rfl
  · obtain ⟨k, c, m, rfl, k0, k1, c0, c1, q⟩ := h
    refine ⟨_, (pss_one (ps_for PassesOwn.never rfl (k_piT (K := K) rfl (pe_tup (pa_cons (pv 0) (pa_cons (pv 1) pa_nil)))) (pg_name (i := 3) sc_check_budgets.nd rfl (.inl rfl))
        (pss_one (ps_if (pt_not (pt_val (pe_call (ok_is_count_up_toN TX) (hr.mono (by decide)) (by rfl) TX.g_is_count_up_to TX.f_is_count_up_to.kp TX.bd_is_count_up_to .nil pass0 (pa_cons (pv 3) (pa_cons (pv 2) pa_nil)))))
          (pss_one ps_never)
          pss_nil)))), ?_⟩
    refine ⟨_, rfl, _, rfl, sz60 (by simp), fun t nt => ⟨t, rfl, ⟨_, .inl (.inl upd_same)⟩, for_tup (K := K) (xs := [V.int k, V.int c]) (fun i σ H' => H' = upd H t (.tup [V.int k, V.int c]) ∧ ∃ y, σ = [some (.int k), some (.int c), some (.int m), y]) ⟨rfl, none, rfl⟩ (fun i σ H' _ h => by rw [h.1]; exact .inl (.inl upd_same)) ?_ ?_⟩⟩
    · rintro i x σ H' hx ⟨rfl, y, rfl⟩
      have hb : ∃ b : Int, x = .int b ∧ 0 ≤ b ∧ b ≤ m := by
        match i, hx with
        | 0, hx => cases hx; exact ⟨k, rfl, k0, k1⟩
        | 1, hx => cases hx; exact ⟨c, rfl, c0, c1⟩
        | i + 2, hx => simp at hx
      obtain ⟨b, rfl, b0, b1⟩ := hb
      exact ⟨_, rfl, _, rfl, _, _, rfl, true, by rw [decide_eq_true b0, decide_eq_true b1]; rfl, iteF ⟨rfl, _, rfl⟩⟩
    · rintro σ H' ⟨rfl, y, rfl⟩
      exact q _ (same_upd nt)
end
section
variable {P : Program} {w : World} {K : PySem.W.Frag} {mg : Str → Option Value} {base : Heap}
def sp_check_flushesN (K : PySem.W.Frag) : Sp := fun vs H Q _ => ∃ n : Nat, vs = [.int (n : Int)] ∧ n ≤ 60 ∧ Q .non H
theorem ok_check_flushesN (TX : Tx K mg) : FnOk P w K mg base CX0 4 TX.a_check_flushes TX.fd_check_flushes ["n"] (sp_check_flushesN K) := by
  refine TX.f_check_flushes.ok sc_check_flushes (fun vs H Q E h => ?_) (fun cdv A outer s H vs Q E hr h => ?_)
  · obtain ⟨n, rfl, _⟩ := h; rfl
  · obtain ⟨n, rfl, hn, q⟩ := h
    refine ⟨_, (pss_one (ps_if (pt_not (pt_val (pe_call (ok_is_count_up_toN TX) (hr.mono (by decide)) (by rfl) TX.g_is_count_up_to TX.f_is_count_up_to.kp TX.bd_is_count_up_to .nil pass0 (pa_cons (pv 0) (pa_cons (pe_glob (v := .int (60)) (by rfl) TX.c_MOST_FLUSHES ⟨_, rfl⟩) pa_nil)))))
        (pss_one ps_never)
        pss_nil)), ?_⟩
    exact ⟨_, rfl, _, _, rfl, true, by rw [decide_eq_true (by omega), decide_eq_true (by omega)]; rfl, iteF q⟩
end
def dPr (p : Nat × Nat) : PyData := .tuple [.int (p.1 : Int), .int (p.2 : Int)]
def dStk (l : List (Nat × Nat)) : PyData := .tuple (l.map dPr)
theorem tf_pr (p : Nat × Nat) : Tf (dPr p) := .tup fun d h => by
  rcases List.mem_cons.mp h with rfl | h
  · exact .int _
  · rcases List.mem_cons.mp h with rfl | h
    · exact .int _
    · cases h
theorem tf_stk (l : List (Nat × Nat)) : Tf (dStk l) := .tup fun d h => by
  obtain ⟨p, _, rfl⟩ := List.mem_map.mp h
  exact tf_pr p
section
variable {P : Program} {w : World} {K : PySem.W.Frag} {mg : Str → Option Value} {base : Heap}
def sp_stack_afterN (K : PySem.W.Frag) : Sp := fun vs H Q _ => ∃ (a : Addr) (t : T) (m : Nat), vs = [.ref a, .int (t.size : Int), .int (m : Int)] ∧ Dp K H (.ref a) (dStk (t.stk 0)) ∧ m ≤ t.runs ∧ t.size ≤ 60 ∧
  ∀ H' p, Same H H' → Dp K H' (.ref p) (dStk ((t.push m).stk 0)) → Q (.ref p) H'
theorem ok_stack_afterN (TX : Tx K mg) : FnOk P w K mg base CX0 1 TX.a_stack_after TX.fd_stack_after ["stack", "flush", "merge"] (sp_stack_afterN K) := by
  refine TX.f_stack_after.ok sc_stack_after (fun vs H Q E h => ?_) (fun cdv A outer s H vs Q E hr h => ?_)
  · obtain ⟨a, t, m, rfl, _⟩ := h; rfl
  · obtain ⟨a, t, m, rfl, hS, hm, hz, q⟩ := h
    obtain ⟨a', xs, e, hS, hA⟩ := Dp.tupInv hS
    cases e
    have hl := DpAll.len hA
    rw [List.length_map, T.stk_len] at hl
    have hrs := T.runs_le t
    have hst := T.start_le t m hm
    have e2 : ((xs.length : Int) - (m : Int)) = ((t.runs - m : Nat) : Int) := by rw [hl]; omega
    refine ⟨_, (pss_cons (ps_set (i := 3) sc_stack_after.nd rfl (.inl rfl) (pe_op op_sub (pe_callB (id := "len") (k_len (K := K) rfl) (by rfl) TX.b_len (by decide +kernel) (pa_cons (pv 0) pa_nil)) (pv 2)))
      (pss_cons (ps_set (i := 4) sc_stack_after.nd rfl (.inl rfl) (pe_ifExp (pt_cmpR op_gt (pv 2) pe_int (nomark _)) (pe_ix (k_ixT (K := K) rfl) (pe_ix (k_ixT (K := K) rfl) (pv 0) (pv 3) (fun _ _ => rfl)) pe_int (fun _ _ => rfl)) (pv 1)))
      (pss_one (ps_ret (pe_op (k_catT (K := K) rfl) (pe_slice (k_slT (K := K) rfl) (pv 0) po_none (po_some (pv 3))) (pe_tup (pa_cons (pe_tup (pa_cons (pv 4) (pa_cons (pe_op op_add (pv 1) pe_int) pa_nil))) pa_nil))))))), ?_⟩
    refine ⟨.ref a, rfl, a, xs, rfl, .inr hS, .int m, rfl, _, _, rfl, rfl, ?_⟩
    refine ⟨.int m, rfl, m, 0, rfl, rfl, _, rfl, ?_⟩
    have pos : (0 < m → ∃ b e, xs[t.runs - m]? = some (.ref b) ∧ SqT K H b [.int (t.start m : Int), .int e]) := fun h0 => by
      obtain ⟨e, he⟩ := T.stk_at t m hm 0 h0
      have h1 : ((t.stk 0).map dPr)[t.runs - m]? = some (dPr (0 + t.start m, e)) := by rw [List.getElem?_map, he]; rfl
      obtain ⟨v, h2, h3⟩ := DpAll.get hA h1
      obtain ⟨b, ys, rfl, h4, h5⟩ := Dp.tupInv h3
      have h6 : ys = [V.int (t.start m : Int), V.int (e : Int)] := by
        have := dp_ints_inv (ns := [((0 + t.start m : Nat) : Int), (e : Int)]) h5
        rw [this, Nat.zero_add]; rfl
      rw [h6] at h4
      exact ⟨b, e, h2, h4⟩
    have fin : ∀ p1 H1 p2 p3, Same H H1 → SqT K H1 p1 (xs.take (t.runs - m)) → H1 p2 = none → (upd H1 p2 (.tup [.int (t.start m : Int), .int ((t.size : Int) + 1)])) p3 = none →
        rCatA K (.ref p1) (.ref p3) (upd (upd H1 p2 (.tup [.int (t.start m : Int), .int ((t.size : Int) + 1)])) p3 (.tup [.ref p2])) Q := fun p1 H1 p2 p3 s1 h1 n2 n3 => by
      have s2 : Same H1 (upd H1 p2 (.tup [.int (t.start m : Int), .int ((t.size : Int) + 1)])) := same_upd n2
      have s3 := same_upd (o := .tup [.ref p2]) n3
      refine cat_read (Same.tup (s2.trans s3) h1) (.inl (.inl upd_same)) (by rw [List.length_take]; simp; omega) fun p H' s4 h4 => q H' p (((s1.trans s2).trans s3).trans s4) ?_
      rw [T.stk_push t m hm 0]
      unfold dStk
      rw [List.map_append, List.map_take]
      refine .tup h4 (DpAll.append (DpAll.same (((s1.trans s2).trans s3).trans s4) (DpAll.take _ hA)) (.cons ?_ .nil))
      refine .tup (xs := [.int (t.start m : Int), .int ((t.size : Int) + 1)]) (Same.tup (s3.trans s4) (.inl (.inl upd_same))) ?_
      have := dp_ints (K := K) (H := H') [(t.start m : Int), ((t.size : Int) + 1)]
      simpa using this
    refine ite2 (fun h => ?_) (fun h => ?_)
    · have h0 : 0 < m := by simpa using h
      obtain ⟨b, e, h2, h4⟩ := pos h0
      refine ⟨.ref a, rfl, _, rfl, a, xs, _, .ref b, rfl, rfl, hS, (by rw [e2]; exact atI_nat h2), b, _, 0, .int (t.start m : Int), rfl, rfl, h4, rfl, ?_⟩
      refine ⟨.ref a, rfl, _, rfl, _, rfl, sl_read hS fun p1 H1 s1 h1 => ?_⟩
      refine ⟨_, rfl, _, rfl, _, _, rfl, rfl, sz60 (by simp), fun p2 n2 => ⟨sz60 (by simp), fun p3 n3 => ?_⟩⟩
      exact fin p1 H1 p2 p3 s1 (by rw [e2, cut_to (by omega)] at h1; exact h1) n2 n3
    · have h0 : m = 0 := by
        have : ¬ (0 < m) := by simpa using h
        omega
      refine ⟨.int (t.start m : Int), by rw [T.start_zero t m hm h0]; rfl, ?_⟩
      refine ⟨.ref a, rfl, _, rfl, _, rfl, sl_read hS fun p1 H1 s1 h1 => ?_⟩
      refine ⟨_, rfl, _, rfl, _, _, rfl, rfl, sz60 (by simp), fun p2 n2 => ⟨sz60 (by simp), fun p3 n3 => ?_⟩⟩
      exact fin p1 H1 p2 p3 s1 (by rw [e2, cut_to (by omega)] at h1; exact h1) n2 n3
def dStacks (t : T) : List PyData := (List.range t.size).map fun i => dStk ((pre t (i + 1)).stk 0)
theorem tf_stacks (t : T) : ∀ d, d ∈ dStacks t → Tf d := fun d h => by
  obtain ⟨i, _, rfl⟩ := List.mem_map.mp h
  exact tf_stk _
theorem dStacks_len (t : T) : (dStacks t).length = t.size := by simp [dStacks]
theorem dStacks_at {t : T} {i : Nat} (h : i < t.size) : (dStacks t)[i]? = some (dStk ((pre t (i + 1)).stk 0)) := by simp [dStacks, h]
theorem dStacks_take {t : T} {i : Nat} (h : i < t.size) : (dStacks t).take (i + 1) = (dStacks t).take i ++ [dStk ((pre t (i + 1)).stk 0)] := by
  rw [List.take_add_one, dStacks_at h]; rfl
def sp_stacksN (K : PySem.W.Frag) : Sp := fun vs H Q _ => ∃ (a : Addr) (t : T), vs = [.ref a] ∧ SqT K H a (vi t.sch) ∧ t.size ≤ 60 ∧ ∀ H' p, Same H H' → Dp K H' (.ref p) (.tuple (dStacks t)) → Q (.ref p) H'
theorem ok_stacksN (TX : Tx K mg) : FnOk P w K mg base CX0 5 TX.a_stacks TX.fd_stacks ["schedule"] (sp_stacksN K) := by
  refine TX.f_stacks.ok sc_stacks (fun vs H Q E h => ?_) (fun cdv A outer s H vs Q E hr h => ?_)
  · obtain ⟨a, t, rfl, _⟩ := h; rfl
  · obtain ⟨a, t, rfl, hS, hz, q⟩ := h
    have hlen : (vi t.sch).length = t.size := by rw [vi_len, T.sch_len]
    refine ⟨_, (pss_cons (ps_if (pt_not (pt_val (pe_call (ok_is_scheduleN TX) (hr.mono (by decide)) (by rfl) TX.g_is_schedule TX.f_is_schedule.kp TX.bd_is_schedule .nil pass0 (pa_cons (pv 0) pa_nil))))
        (pss_one ps_never)
        pss_nil)
      (pss_cons (ps_set (i := 1) sc_stacks.nd rfl (.inl rfl) (pe_tup pa_nil))
      (pss_cons (ps_set (i := 2) sc_stacks.nd rfl (.inl rfl) (pe_lst pa_nil))
      (pss_cons (ps_for PassesOwn.never rfl (pi_enumT (by rfl) TX.b_enumerate (pa_cons (pv 0) pa_nil)) (pg_tup rfl (pgs_cons (pg_name (i := 3) sc_stacks.nd rfl (.inl rfl)) (pgs_cons (pg_name (i := 4) sc_stacks.nd rfl (.inl rfl)) pgs_nil)))
        (pss_cons (ps_set (i := 1) sc_stacks.nd rfl (.inl rfl) (pe_call (ok_stack_afterN TX) (hr.mono (by decide)) (by rfl) TX.g_stack_after TX.f_stack_after.kp TX.bd_stack_after .nil pass0 (pa_cons (pv 1) (pa_cons (pv 3) (pa_cons (pv 4) pa_nil)))))
        (pss_one (ps_expr (pe_bm PySem.F.plainAttrs_list PySem.F.slot_list_append PySem.F.type_list_append mt_append (pv 2) (pa_cons (pv 1) pa_nil))))))
      (pss_one (ps_ret (pe_callTy (T := "tuple") (k_tupOf (K := K) rfl) (by rfl) TX.b_tuple (by decide +kernel) (pa_cons (pv 2) pa_nil)))))))), ?_⟩
    refine ⟨.ref a, rfl, a, t, rfl, hS, hz, true, rfl, iteF ⟨sz60 (by simp), fun p0 n0 => ⟨sz60 (by simp), fun r nr => ?_⟩⟩⟩
    have s0 : Same H (upd H p0 (.tup [])) := same_upd n0
    have s1 : Same (upd H p0 (.tup [])) (upd (upd H p0 (.tup [])) r (.lst [])) := same_upd nr
    have nr0 : H r = none := s0.free nr
    refine ⟨.ref a, rfl, a, _, rfl, Same.tup (s0.trans s1) hS, for_it walk_enumT (fun i σ H' => ∃ p y3 y4 acc, σ = [some (.ref a), some (.ref p), some (.ref r), y3, y4] ∧ Same H H' ∧ Dp K H' (.ref p) (dStk ((pre t i).stk 0)) ∧ H' r = some (.lst acc) ∧ DpAll K H' acc ((dStacks t).take i))
      ⟨p0, none, none, [], rfl, s0.trans s1, .tup (Same.tup s1 (.inl (.inl upd_same))) .nil, upd_same, .nil⟩ (fun i σ H' _ ⟨_, _, _, _, _, h, _⟩ => Same.tup h hS) ?_ ?_⟩
    · rintro i x σ H1 H2 hi ⟨p, y3, y4, acc, rfl, sm, hp, hr', hA⟩ hy
      obtain ⟨Tp, x1, x2, rfl, nT, rfl, e1, e2⟩ := hy
      cases e1
      have hi' : i < t.sch.length := by rw [vi_len] at hi; exact hi
      have hm := List.getElem?_eq_getElem hi'
      replace e2 : (vi t.sch)[i]? = some x2 := e2
      rw [vi_get hm] at e2
      cases e2
      have hi2 : i < t.size := by rw [← T.sch_len]; exact hi'
      obtain ⟨f1, f2⟩ := pre_succ hm
      have sT : Same H1 (upd H1 Tp (.tup [.int (i : Nat), .int (t.sch[i] : Int)])) := same_upd nT
      refine ⟨Tp, _, rfl, .inl (.inl upd_same), rfl, _, _, rfl, _, [], rfl, rfl, ?_⟩
      refine ⟨.ref p, rfl, .int (i : Nat), rfl, .int (t.sch[i] : Int), rfl, p, pre t i, t.sch[i], ?_, Dp.same sT hp, f2, by rw [pre_size (by omega)]; omega, fun H3 p3 s3 h3 => ?_⟩
      · rw [pre_size (by omega)]; rfl
      · rw [← f1] at h3
        have hr3 := s3 _ _ (sT _ _ hr')
        have hlA := DpAll.len hA
        rw [List.length_take, dStacks_len] at hlA
        refine ⟨.ref r, rfl, .inl ⟨rfl, _, .inl (.inl hr3)⟩, .ref p3, rfl, r, _, _, rfl, rfl, hr3, sz61 (by omega), ?_⟩
        have kp : Keep K H3 (upd H3 r (.lst (acc ++ [.ref p3]))) := But.keep But.upd hr3
        refine ⟨p3, some (.int (i : Nat)), some (.int (t.sch[i] : Int)), acc ++ [.ref p3], rfl, Same.mut ((sm.trans sT).trans s3) nr0, Dp.keep kp (tf_stk _) h3, upd_same, ?_⟩
        rw [dStacks_take hi2]
        refine DpAll.keep kp (fun d h => ?_) (DpAll.append (DpAll.same (sT.trans s3) hA) (.cons h3 .nil))
        rw [← dStacks_take hi2] at h
        exact tf_stacks t d (List.mem_of_mem_take h)
    · rintro σ H' ⟨p, y3, y4, acc, rfl, sm, hp, hr', hA⟩
      rw [hlen, List.take_of_length_le (by rw [dStacks_len]; omega)] at hA
      refine ⟨.ref r, rfl, r, acc, rfl, .inl ⟨.inl (.inl hr'), fun l nl => ?_⟩⟩
      exact q _ l (sm.trans (same_upd nl)) (.tup (.inl (.inl upd_same)) (DpAll.same (same_upd nl) hA))
end
section
variable {P : Program} {w : World} {K : PySem.W.Frag} {mg : Str → Option Value} {base : Heap}
def sp_writesN (K : PySem.W.Frag) : Sp := fun vs H Q _ => ∃ (a : Addr) (t : T), vs = [.ref a] ∧ SqT K H a (vi t.sch) ∧ t.size ≤ 60 ∧ ∀ H' p, Same H H' → SqT K H' p (vi t.wr) → Q (.ref p) H'
theorem ok_writesN (TX : Tx K mg) : FnOk P w K mg base CX0 6 TX.a_writes TX.fd_writes ["schedule"] (sp_writesN K) := by
  refine TX.f_writes.ok sc_writes (fun vs H Q E h => ?_) (fun cdv A outer s H vs Q E hr h => ?_)
  · obtain ⟨a, t, rfl, _⟩ := h; rfl
  · obtain ⟨a, t, rfl, hS, hz, q⟩ := h
    refine ⟨_, (pss_cons (ps_set (i := 1) sc_writes.nd rfl (.inl rfl) (pe_call (ok_stacksN TX) (hr.mono (by decide)) (by rfl) TX.g_stacks TX.f_stacks.kp TX.bd_stacks .nil pass0 (pa_cons (pv 0) pa_nil)))
      (pss_cons (ps_set (i := 2) sc_writes.nd rfl (.inl rfl) (pe_op op_rep (pe_lst (pa_cons pe_int pa_nil)) (pe_callB (id := "len") (k_len (K := K) rfl) (by rfl) TX.b_len (by decide +kernel) (pa_cons (pv 1) pa_nil))))
      (pss_cons (ps_for PassesOwn.never rfl (k_piT (K := K) rfl (pv 1)) (pg_name (i := 3) sc_writes.nd rfl (.inl rfl))
        (pss_cons (ps_asg (pe_ix (k_ixT (K := K) rfl) (pv 3) (pe_un un_neg pe_int) (fun _ _ => rfl)) (pg_tup rfl (pgs_cons (pg_name (i := 4) sc_writes.nd rfl (.inl rfl)) (pgs_cons (pg_name (i := 5) sc_writes.nd rfl (.inl rfl)) pgs_nil))))
        (pss_one (ps_for PassesOwn.never rfl (pi_range2 (by rfl) TX.b_range (pa_cons (pv 4) (pa_cons (pv 5) pa_nil))) (pg_name (i := 6) sc_writes.nd rfl (.inl rfl))
          (pss_one (ps_augS (pv 2) (pv 6) get_list pe_int ip_add set_list))))))
      (pss_one (ps_ret (pe_callTy (T := "tuple") (k_tupOf (K := K) rfl) (by rfl) TX.b_tuple (by decide +kernel) (pa_cons (pv 2) pa_nil))))))), ?_⟩
    refine ⟨.ref a, rfl, a, t, rfl, hS, hz, fun H1 p1 s1 h1 => ?_⟩
    obtain ⟨p1', xs, e, hX, hA⟩ := Dp.tupInv h1
    cases e
    have hl := DpAll.len hA
    rw [dStacks_len] at hl
    refine ⟨sz60 (by simp), fun z nz => ?_⟩
    have s2 : Same H1 (upd H1 z (.lst [.int 0])) := same_upd nz
    refine ⟨.ref p1, rfl, p1, xs, rfl, .inr (Same.tup s2 hX), z, _, _, rfl, rfl, upd_same, by omega, by omega, sz60 (by simp; omega), fun l nl => ?_⟩
    have s3 := same_upd (o := .lst (List.replicate ((xs.length : Int)).toNat [V.int 0]).flatten) nl
    have ec : (List.replicate ((xs.length : Int)).toNat [V.int 0]).flatten = vi (List.replicate t.size 0) := by
      rw [vi_rep, Int.toNat_natCast, hl, List.flatten_replicate_singleton]; rfl
    rw [ec] at s3 ⊢
    have hX3 := Same.tup (s2.trans s3) hX
    have hA3 := DpAll.same (s2.trans s3) hA
    have nl1 : H1 l = none := s2.free nl
    generalize hH3 : upd (upd H1 z (HO.lst [V.int 0])) l (HO.lst (vi (List.replicate t.size 0))) = H3 at s3 hX3 hA3 ⊢
    have hl3 : H3 l = some (.lst (vi (List.replicate t.size 0))) := by rw [← hH3]; exact upd_same
    have s13 : Same H1 H3 := s2.trans s3
    refine ⟨.ref p1, rfl, p1, rfl, ⟨_, hX3⟩, for_tup (K := K) (xs := xs) (fun i σ H' => ∃ y3 y4 y5 y6 c, σ = [some (.ref a), some (.ref p1), some (.ref l), y3, y4, y5, y6] ∧ Same H1 H' ∧ H' l = some (.lst (vi c)) ∧ c.length = t.size ∧ ∀ k, k < t.size → c[k]? = some ((pre t i).wr.getD k 0))
      ⟨none, none, none, none, List.replicate t.size 0, rfl, s13, hl3, by simp, fun k hk => by rw [List.getElem?_replicate, if_pos hk]; rfl⟩ (fun i σ H' _ ⟨_, _, _, _, _, _, h, _⟩ => Same.tup h hX) ?_ ?_⟩
    · rintro i x σ H4 hx ⟨y3, y4, y5, y6, c, rfl, s4, hc, hcl, hcv⟩
      have hi : i < t.size := by rw [← hl]; exact (List.getElem?_eq_some_iff.mp hx).1
      obtain ⟨m, hm⟩ : ∃ m, t.sch[i]? = some m := ⟨_, List.getElem?_eq_getElem (show i < t.sch.length by rw [T.sch_len]; exact hi)⟩
      obtain ⟨f1, f2⟩ := pre_succ hm
      have fs := T.start_le _ _ f2
      rw [pre_size (by omega)] at fs
      obtain ⟨v, g1, g2⟩ := DpAll.get (DpAll.same s4 hA) (dStacks_at hi)
      rw [hx] at g1
      cases g1
      obtain ⟨b, us, rfl, g3, g4⟩ := Dp.tupInv g2
      rw [stk_last hm, List.map_append] at g4
      obtain ⟨us', v', rfl, _, g5⟩ := DpAll.snoc g4
      obtain ⟨b', e5, g6⟩ := Dp.intsInv (ns := [((pre t i).start m : Int), ((i + 1 : Nat) : Int)]) g5
      cases e5
      refine ⟨.ref b, rfl, _, rfl, b, _, -1, _, rfl, rfl, g3, atI_last _ _, b', _, rfl, g6, rfl, _, _, rfl, _, [], rfl, rfl, ?_⟩
      refine ⟨_, rfl, _, rfl, _, _, rfl, ⟨by omega, by omega, by omega, by omega⟩, for_range (lo := ((pre t i).start m : Int)) (n := (((i + 1 : Nat) : Int) - ((pre t i).start m : Int)).toNat)
        (fun j σ H' => ∃ y6 c, σ = [some (.ref a), some (.ref p1), some (.ref l), some (.ref b), some (.int ((pre t i).start m : Int)), some (.int ((i + 1 : Nat) : Int)), y6] ∧ Same H1 H' ∧ H' l = some (.lst (vi c)) ∧ c.length = t.size ∧ ∀ k, k < t.size → c[k]? = some (if (pre t i).start m ≤ k ∧ k < (pre t i).start m + j then (pre t i).wr.getD k 0 + 1 else (pre t i).wr.getD k 0))
        ⟨y6, c, rfl, s4, hc, hcl, fun k hk => by rw [if_neg (by omega)]; exact hcv k hk⟩ ?_ ?_⟩
      · rintro j σ H5 hj ⟨y6, c, rfl, s5, hc, hcl, hcv⟩
        have hj2 : (pre t i).start m + j < t.size := by omega
        have e1 : ((pre t i).start m : Int) + (j : Int) = (((pre t i).start m + j : Nat) : Int) := by omega
        have h6 := hcv _ hj2
        rw [if_neg (by omega)] at h6
        rw [e1]
        refine ⟨.ref l, rfl, _, rfl, l, _, _, _, rfl, rfl, .inl (.inl hc), at_vi h6, _, _, rfl, rfl, l, _, _, _, rfl, rfl, hc, ixN_of (by rw [vi_len]; omega), ?_⟩
        have e2 : (((pre t i).wr.getD ((pre t i).start m + j) 0 : Nat) : Int) + 1 = (((pre t i).wr.getD ((pre t i).start m + j) 0 + 1 : Nat) : Int) := by omega
        refine ⟨_, c.set ((pre t i).start m + j) ((pre t i).wr.getD ((pre t i).start m + j) 0 + 1), rfl, Same.mut s5 nl1, ?_, by rw [List.length_set]; exact hcl, fun k hk => ?_⟩
        · rw [← vi_set, ← e2]; exact upd_same
        · by_cases hk2 : (pre t i).start m + j = k
          · rw [← hk2, List.getElem?_set_self (by omega), if_pos (by omega)]
          · rw [List.getElem?_set_ne hk2, hcv k hk]
            by_cases hk3 : (pre t i).start m ≤ k ∧ k < (pre t i).start m + j
            · rw [if_pos hk3, if_pos (by omega)]
            · rw [if_neg hk3, if_neg (by omega)]
      · rintro σ H5 ⟨y6, c, rfl, s5, hc, hcl, hcv⟩
        refine ⟨_, _, _, y6, c, rfl, s5, hc, hcl, fun k hk => ?_⟩
        rw [hcv k hk, f1, wr_step f2, pre_size (by omega)]
        by_cases hk3 : (pre t i).start m ≤ k ∧ k < i + 1
        · rw [if_pos (by omega), if_pos hk3]
        · rw [if_neg (by omega), if_neg hk3]
    · rintro σ H4 ⟨y3, y4, y5, y6, c, rfl, s4, hc, hcl, hcv⟩
      rw [hl, pre_all] at hcv
      have ecw : c = t.wr := list_by (by rw [hcl, T.wr_len]) fun k hk => hcv k (by omega)
      rw [ecw] at hc
      refine ⟨.ref l, rfl, l, _, rfl, .inl ⟨.inl (.inl hc), fun o no => ?_⟩⟩
      exact q _ o ((s1.trans s4).trans (same_upd no)) (.inl (.inl upd_same))
def sp_run_countsN (K : PySem.W.Frag) : Sp := fun vs H Q _ => ∃ (a : Addr) (t : T), vs = [.ref a] ∧ SqT K H a (vi t.sch) ∧ t.size ≤ 60 ∧ ∀ H' p, Same H H' → SqT K H' p (vi t.rc) → Q (.ref p) H'
theorem ok_run_countsN (TX : Tx K mg) : FnOk P w K mg base CX0 6 TX.a_run_counts TX.fd_run_counts ["schedule"] (sp_run_countsN K) := by
  refine TX.f_run_counts.ok sc_run_counts (fun vs H Q E h => ?_) (fun cdv A outer s H vs Q E hr h => ?_)
  · obtain ⟨a, t, rfl, _⟩ := h; rfl
  · obtain ⟨a, t, rfl, hS, hz, q⟩ := h
    refine ⟨_, (pss_one (ps_ret (pe_callTy (T := "tuple") (k_tupOf (K := K) rfl) (by rfl) TX.b_tuple (by decide +kernel) (pa_cons (pe_lc (own := [("stack", 1)]) (by rfl) sc_run_counts.nd (k_piT (K := K) rfl (pe_call (ok_stacksN TX) (hr.mono (by decide)) (by rfl) TX.g_stacks TX.f_stacks.kp TX.bd_stacks .nil pass0 (pa_cons (pv 0) pa_nil))) (blkOk_by (own := [("stack", 1)]) (N := N_run_counts) (sc := defScope s_run_counts) (by decide +kernel)) (fun _ _ _ _ _ => (pg_name (i := 1) sc_run_counts.nd rfl (Or.inl rfl))) (fun _ _ _ _ _ => pts_nil) (fun _ _ _ _ _ => (pe_callB (id := "len") (k_len (K := K) rfl) (by rfl) TX.b_len (by decide +kernel) (pa_cons (pv 1) pa_nil)))) pa_nil)))), ?_⟩
    refine ⟨.ref a, rfl, a, t, rfl, hS, hz, fun H1 p1 s1 h1 => ?_⟩
    obtain ⟨p1', xs, e, hX, hA⟩ := Dp.tupInv h1
    cases e
    have hl := DpAll.len hA
    rw [dStacks_len] at hl
    refine ⟨p1, rfl, ⟨_, hX⟩, fun D nD => lc_all (K := K) walk_tup ((ci t.rc).map PyData.int) (by rw [List.length_map, ci, List.length_map, T.rc_len, hl]) (tf_ints _) (by omega) nD (fun H' s' => Same.tup s' hX) ?_ ?_ (fun x σ' H' Q Q' h => h _ _) (fun σ' H' Q Q' h => h _ _)⟩
    · rintro i x H2 H2' hi s2 ⟨rfl, hx⟩ d hd R hR
      have hi2 : i < t.size := by omega
      obtain ⟨v, g1, g2⟩ := DpAll.get (DpAll.same s2 hA) (dStacks_at hi2)
      rw [hx] at g1
      cases g1
      obtain ⟨b, us, rfl, g3, g4⟩ := Dp.tupInv g2
      have hl4 := DpAll.len g4
      rw [List.length_map, T.stk_len] at hl4
      refine ⟨rfl, rfl, .ref b, rfl, b, us, rfl, .inr g3, hR _ _ (Same.refl _) ?_⟩
      have e := pre_runs hi2
      rw [List.getElem?_map, ci, List.getElem?_map, e] at hd
      cases hd
      rw [hl4]
      exact .int _
    · intro H2 acc s2 ha hAcc
      rw [dp_ints_inv hAcc] at ha
      refine ⟨D, _, rfl, .inl ⟨.inl (.inl ha), fun o no => ?_⟩⟩
      refine q _ o ((s1.trans s2).trans (same_upd no)) (.inl (.inl ?_))
      rw [vi_ci]; exact upd_same
end
section
variable {P : Program} {w : World} {K : PySem.W.Frag} {mg : Str → Option Value} {base : Heap}
def sp_runs_at_endN (K : PySem.W.Frag) : Sp := fun vs H Q _ => ∃ (a : Addr) (t : T), vs = [.ref a] ∧ SqT K H a (vi t.sch) ∧ t.size ≤ 1000 ∧ Q (.int (t.runs : Int)) H
theorem ok_runs_at_endN (TX : Tx K mg) : FnOk P w K mg base CX0 1 TX.a_runs_at_end TX.fd_runs_at_end ["schedule"] (sp_runs_at_endN K) := by
  refine TX.f_runs_at_end.ok sc_runs_at_end (fun vs H Q E h => ?_) (fun cdv A outer s H vs Q E hr h => ?_)
  · obtain ⟨a, t, rfl, _⟩ := h; rfl
  · obtain ⟨a, t, rfl, hS, hz, q⟩ := h
    refine ⟨_, (pss_one (ps_ret (pe_op op_sub (pe_callB (id := "len") (k_len (K := K) rfl) (by rfl) TX.b_len (by decide +kernel) (pa_cons (pv 0) pa_nil)) (pe_callB (id := "sum") (k_sumT (K := K) rfl rfl) (by rfl) TX.b_sum (by decide +kernel) (pa_cons (pv 0) pa_nil))))), ?_⟩
    refine ⟨.ref a, rfl, a, _, rfl, .inr hS, .ref a, rfl, a, ci t.sch, rfl, by rw [← vi_ci]; exact hS, _, _, rfl, rfl, ?_⟩
    have e : ((vi t.sch).length : Int) - (ci t.sch).sum = (t.runs : Int) := by
      have h1 := T.sum_sch t
      have h2 : (ci t.sch).sum = ((t.sch.sum : Nat) : Int) := by
        unfold ci
        induction t.sch with
        | nil => rfl
        | cons x xs ih => simp only [List.map_cons, List.sum_cons, ih, Int.natCast_add]
      rw [vi_len, T.sch_len, h2]
      omega
    show Q (V.int (((vi t.sch).length : Int) - (ci t.sch).sum)) H
    rw [e]
    exact q
end
/-! ### how many trees of a size within budgets -/
def rowW (prev : Nat → Nat → Nat) : Nat → Nat → Nat
  | 0, s => if s = 0 then 1 else 0
  | _ + 1, 0 => 1
  | a + 1, s + 1 => ((List.range (s + 1)).map fun i => rowW prev a i * prev (a + 1) (s - i)).sum
def nB : Nat → Nat → Nat → Nat
  | 0 => fun _ s => if s = 0 then 1 else 0
  | b + 1 => rowW (nB b)
theorem nB_z : ∀ b a, nB b a 0 = 1
  | 0, _ => rfl
  | _ + 1, 0 => rfl
  | _ + 1, _ + 1 => rfl
theorem nB_l0 (a s : Nat) : nB 0 a s = if s = 0 then 1 else 0 := rfl
theorem nB_r0 : ∀ b s, nB b 0 s = if s = 0 then 1 else 0
  | 0, _ => rfl
  | _ + 1, _ => rfl
theorem nB_s (b a s : Nat) : nB (b + 1) (a + 1) (s + 1) = ((List.range (s + 1)).map fun i => nB (b + 1) a i * nB b (a + 1) (s - i)).sum := rfl
theorem sum_le {f : Nat → Nat} {B : Nat} : ∀ n, (∀ i, i < n → f i ≤ B) → ((List.range n).map f).sum ≤ n * B
  | 0, _ => by simp
  | n + 1, h => by
    rw [List.range_succ, List.map_append, List.sum_append]
    have h1 := sum_le n fun i hi => h i (by omega)
    have h2 := h n (by omega)
    simp only [List.map_cons, List.map_nil, List.sum_cons, List.sum_nil]
    rw [Nat.succ_mul]; omega
theorem nB_le : ∀ b a s, nB b a s ≤ 2 ^ (s * s) := fun b => by
  induction b with
  | zero => intro a s; rw [nB_l0]; (split; exact Nat.one_le_two_pow; exact Nat.zero_le _)
  | succ b ihb =>
    intro a
    induction a with
    | zero => intro s; rw [nB_r0]; (split; exact Nat.one_le_two_pow; exact Nat.zero_le _)
    | succ a iha =>
      intro s
      cases s with
      | zero => rw [nB_z]; exact Nat.one_le_two_pow
      | succ s =>
        rw [nB_s]
        refine Nat.le_trans (sum_le (B := 2 ^ (s * s)) (s + 1) fun i hi => ?_) ?_
        · obtain ⟨j, rfl⟩ : ∃ j, s = i + j := ⟨s - i, by omega⟩
          have h1 := iha i
          have h2 := ihb (a + 1) j
          rw [show i + j - i = j by omega]
          refine Nat.le_trans (Nat.mul_le_mul h1 h2) ?_
          rw [← Nat.pow_add]
          refine Nat.pow_le_pow_right (by decide) ?_
          have : (i + j) * (i + j) = i * i + j * j + 2 * (i * j) := by rw [Nat.add_mul, Nat.mul_add, Nat.mul_add, Nat.mul_comm j i]; omega
          omega
        · have h1 : s + 1 ≤ 2 ^ s := Nat.lt_two_pow_self
          refine Nat.le_trans (Nat.mul_le_mul_right _ h1) ?_
          rw [← Nat.pow_add]
          refine Nat.pow_le_pow_right (by decide) ?_
          have : (s + 1) * (s + 1) = s * s + 2 * s + 1 := by rw [Nat.add_mul, Nat.mul_add]; omega
          omega
theorem nB_lt {b a s : Nat} (h : s ≤ 60) : nB b a s < 2 ^ 4000 := by
  refine Nat.lt_of_le_of_lt (nB_le b a s) (Nat.pow_lt_pow_right (by decide) ?_)
  have := Nat.mul_le_mul h h
  omega
/-- the counts of a place of the table -/
def cwL (b a most : Nat) : List Nat := (List.range (most + 1)).map (nB b a)
theorem cwL_len (b a m : Nat) : (cwL b a m).length = m + 1 := by simp [cwL]
theorem cwL_get {b a m s : Nat} (h : s ≤ m) : (cwL b a m)[s]? = some (nB b a s) := by
  unfold cwL
  rw [List.getElem?_map, List.getElem?_range (by omega)]; rfl
theorem cwL_edge {b a m : Nat} (h : m = 0 ∨ b = 0 ∨ a = 0) : cwL b a m = 1 :: List.replicate m 0 := by
  refine List.ext_getElem? fun s => ?_
  by_cases hs : s ≤ m
  · rw [cwL_get hs]
    cases s with
    | zero => rw [nB_z]; rfl
    | succ s =>
      rw [List.getElem?_cons_succ, List.getElem?_replicate, if_pos (by omega)]
      rcases h with h | h | h
      · omega
      · subst h; rw [nB_l0, if_neg (by omega)]
      · subst h; rw [nB_r0, if_neg (by omega)]
  · rw [List.getElem?_eq_none (by rw [cwL_len]; omega), List.getElem?_eq_none (by simp; omega)]
def conv (xs ys : List Nat) : List Nat := 1 :: (List.range xs.length).map fun t => ((List.range (t + 1)).map fun i => xs.getD i 0 * ys.getD (t - i) 0).sum
theorem cwL_conv {b a m : Nat} : conv (cwL (b + 1) a m) (cwL b (a + 1) m) = cwL (b + 1) (a + 1) (m + 1) := by
  unfold conv
  rw [cwL_len]
  have e : cwL (b + 1) (a + 1) (m + 1) = 1 :: (List.range (m + 1)).map fun t => nB (b + 1) (a + 1) (t + 1) := by
    unfold cwL
    rw [List.range_succ_eq_map, List.map_cons, List.map_map, nB_z]
    rfl
  rw [e]
  congr 1
  refine List.map_congr_left fun t ht => ?_
  have ht := List.mem_range.mp ht
  rw [nB_s]
  congr 1
  refine List.map_congr_left fun i hi => ?_
  have hi := List.mem_range.mp hi
  rw [List.getD_eq_getElem?_getD, List.getD_eq_getElem?_getD, cwL_get (by omega), cwL_get (by omega)]
  rfl
/-! ### a dict whose values are lists of numbers that nobody changes -/
def TabL (K : PySem.W.Frag) (P : Program) (w : World) (H : Hp) (d : Addr) (N : Nat) (T : Nat → Nat → Option (List Nat)) : Prop :=
  ∃ kvs, DN K P w H d kvs ∧ kvs.length ≤ N ∧ ∀ (b a : Nat) (xs : List Nat), T b a = some xs → ∃ l, valV kvs [(b : Int), (a : Int)] = some (.ref l) ∧ l ≠ d ∧ H l = some (.lst (vi xs))
theorem TabL.same {K : PySem.W.Frag} {P : Program} {w : World} {H H' : Hp} {d : Addr} {N : Nat} {T : Nat → Nat → Option (List Nat)} (t : TabL K P w H d N T) (s : Same H H') : TabL K P w H' d N T := by
  obtain ⟨kvs, h1, h2, h3⟩ := t
  refine ⟨kvs, h1.same s, h2, fun b a xs e => ?_⟩
  obtain ⟨l, a1, a2, a3⟩ := h3 b a xs e
  exact ⟨l, a1, a2, s _ _ a3⟩
theorem TabL.extN {K : PySem.W.Frag} {P : Program} {w : World} {H : Hp} {d : Addr} {N : Nat} {T T' : Nat → Nat → Option (List Nat)} (t : TabL K P w H d N T) (h : ∀ b a xs, T' b a = some xs → T b a = some xs) : TabL K P w H d N T' := by
  obtain ⟨kvs, h1, h2, h3⟩ := t
  exact ⟨kvs, h1, h2, fun b a xs e => h3 b a xs (h b a xs e)⟩
theorem TabL.at {K : PySem.W.Frag} {P : Program} {w : World} {H : Hp} {d : Addr} {N : Nat} {T : Nat → Nat → Option (List Nat)} (t : TabL K P w H d N T) {b a : Nat} {xs : List Nat} (e : T b a = some xs) : ∃ kvs l, DN K P w H d kvs ∧ valV kvs [(b : Int), (a : Int)] = some (.ref l) ∧ H l = some (.lst (vi xs)) := by
  obtain ⟨kvs, h1, h2, h3⟩ := t
  obtain ⟨l, a1, a2, a3⟩ := h3 b a xs e
  exact ⟨kvs, l, h1, a1, a3⟩
theorem TabL.new {K : PySem.W.Frag} {P : Program} {w : World} {H : Hp} {d : Addr} (g : DN K P w H d []) : TabL K P w H d 0 fun _ _ => none := ⟨[], g, Nat.le_refl _, fun _ _ _ h => nomatch h⟩
theorem key2_inj {b a b' a' : Nat} (h : ([(b : Int), (a : Int)] : List Int) = [(b' : Int), (a' : Int)]) : b = b' ∧ a = a' := by
  simp only [List.cons.injEq, and_true] at h
  omega
theorem TabL.put {K : PySem.W.Frag} {P : Program} {w : World} {H : Hp} {d l : Addr} {N : Nat} {T : Nat → Nat → Option (List Nat)} (t : TabL K P w H d N T) {xs : List Nat} (b a : Nat) (hl : H l = some (.lst (vi xs))) (hN : N ≤ 100000) : ∃ kvs, DN K P w H d kvs ∧ kvs.length < sizeLine ∧
    ∀ H', (∀ c, c ≠ d → H' c = H c) → DN K P w H' d (putK kvs [(b : Int), (a : Int)] (.ref l)) → TabL K P w H' d (N + 1) (fun b' a' => if b' = b ∧ a' = a then some xs else T b' a') := by
  obtain ⟨kvs, h1, h2, h3⟩ := t
  have hld : l ≠ d := fun e => by
    obtain ⟨L, g, _⟩ := h1
    rw [e, g] at hl; cases hl
  refine ⟨kvs, h1, sz61 (by omega), fun H' hH g => ⟨_, g, by have := length_putK kvs [(b : Int), (a : Int)] (.ref l); omega, fun b' a' ys e => ?_⟩⟩
  replace e : (if b' = b ∧ a' = a then some xs else T b' a') = some ys := e
  rw [valV_put]
  by_cases z : b' = b ∧ a' = a
  · rw [if_pos z] at e
    cases e
    rw [if_pos (by rw [z.1, z.2])]
    exact ⟨l, rfl, hld, by rw [hH l hld]; exact hl⟩
  · rw [if_neg z] at e
    obtain ⟨m, a1, a2, a3⟩ := h3 b' a' ys e
    rw [if_neg fun q => z (key2_inj q)]
    exact ⟨m, a1, a2, by rw [hH m a2]; exact a3⟩
theorem TabL.list {K : PySem.W.Frag} {P : Program} {w : World} {H : Hp} {d : Addr} {N : Nat} {T : Nat → Nat → Option (List Nat)} (t : TabL K P w H d N T) : ∃ L, H d = some (DXO P w d L) := by
  obtain ⟨kvs, ⟨L, g, _⟩, _⟩ := t
  exact ⟨L, g⟩
section
variable {P : Program} {w : World} {K : PySem.W.Frag} {mg : Str → Option Value} {base : Heap}
def sp_counts_by_sizeN (K : PySem.W.Frag) : Sp := fun vs H Q _ => ∃ (la lb : Addr) (xs ys : List Nat), vs = [.ref la, .ref lb] ∧ H la = some (.lst (vi xs)) ∧ H lb = some (.lst (vi ys)) ∧ xs.length = ys.length ∧ xs.length ≤ 100 ∧ (∀ x, x ∈ xs → x < 2 ^ 4000) ∧ (∀ y, y ∈ ys → y < 2 ^ 4000) ∧ ∀ H' p, Same H H' → H' p = some (.lst (vi (conv xs ys))) → Q (.ref p) H'
theorem ok_counts_by_sizeN (TX : Tx K mg) : FnOk P w K mg base CX0 1 TX.a_counts_by_size TX.fd_counts_by_size ["lefts", "rights"] (sp_counts_by_sizeN K) := by
  refine TX.f_counts_by_size.ok sc_counts_by_size (fun vs H Q E h => ?_) (fun cdv A outer s H vs Q E hr h => ?_)
  · obtain ⟨la, lb, xs, ys, rfl, _⟩ := h; rfl
  · obtain ⟨la, lb, xs, ys, rfl, hxs, hys, hl, hl100, bx, bY, q⟩ := h
    refine ⟨_, (pss_cons (ps_set (i := 2) sc_counts_by_size.nd rfl (.inl rfl) (pe_lst (pa_cons pe_int pa_nil)))
      (pss_cons (ps_for PassesOwn.never rfl (pi_range1 (by rfl) TX.b_range (pa_cons (pe_callB (id := "len") (k_len (K := K) rfl) (by rfl) TX.b_len (by decide +kernel) (pa_cons (pv 0) pa_nil)) pa_nil)) (pg_name (i := 3) sc_counts_by_size.nd rfl (.inl rfl))
        (pss_one (ps_expr (pe_bm PySem.F.plainAttrs_list PySem.F.slot_list_append PySem.F.type_list_append mt_append (pv 2) (pa_cons (pe_callB (id := "sum") (cr_sum rfl) (by rfl) TX.b_sum (by decide +kernel) (pa_cons (pe_lc (own := [("left", 4), ("right", 5)]) (by rfl) sc_counts_by_size.nd (pi_zip (by rfl) TX.b_zip (pa_cons (pv 0) (pa_cons (pe_revF (K := K) rfl (pv 1) (pv 3)) pa_nil))) (blkOk_by (own := [("left", 4), ("right", 5)]) (N := N_counts_by_size) (sc := defScope s_counts_by_size) (by decide +kernel)) (fun _ _ _ _ _ => (k_pgT2 (K := K) rfl rfl (pg_name (i := 4) sc_counts_by_size.nd rfl (Or.inl rfl)) (pg_name (i := 5) sc_counts_by_size.nd rfl (Or.inl rfl)))) (fun _ _ _ _ _ => pts_nil) (fun _ _ _ _ _ => (pe_op op_mulW (pv 4) (pv 5)))) pa_nil)) pa_nil)))))
      (pss_one (ps_ret (pv 2))))), ?_⟩
    refine ⟨sz60 (by simp), fun C nC => ?_⟩
    have s0 := same_upd (o := .lst [V.int 1]) nC
    have hC0 := upd_same (H := H) (a := C) (o := .lst [V.int 1])
    generalize upd H C (.lst [V.int 1]) = H0 at s0 hC0 ⊢
    refine ⟨.ref la, rfl, la, _, rfl, .inl (.inl (.inl (s0 _ _ hxs))), _, rfl, by rw [vi_len]; omega, by rw [vi_len]; omega, ?_⟩
    refine for_range (lo := 0) (n := ((vi xs).length : Int).toNat) (fun t σ G => ∃ y3 y4 y5, σ = [some (.ref la), some (.ref lb), some (.ref C), y3, y4, y5] ∧ Same H G ∧ G C = some (.lst (vi ((conv xs ys).take (t + 1))))) ⟨_, _, _, rfl, s0, hC0⟩ ?_ ?_
    · rintro t σ G ht ⟨y3, y4, y5, rfl, s1, hC⟩
      have ht' : t < xs.length := by rw [vi_len] at ht; omega
      have et : (0 : Int) + (t : Nat) = (t : Int) := by omega
      rw [et]
      have hyG := s1 _ _ hys
      have hxG := s1 _ _ hxs
      refine ⟨.ref C, rfl, .inl ⟨rfl, _, .inl (.inl hC)⟩, .ref la, rfl, .ref lb, rfl, _, rfl, _, rfl, lb, vi ys, t, rfl, rfl, .inl (.inl hyG), by rw [vi_len]; omega, fun R nR => ?_⟩
      have s2 := same_upd (o := .lst ((vi ys).take (t + 1)).reverse) nR
      have hR := upd_same (H := G) (a := R) (o := .lst ((vi ys).take (t + 1)).reverse)
      have er : ((vi ys).take (t + 1)).reverse = vi ((ys.take (t + 1)).reverse) := by
        unfold vi
        rw [← List.map_take, ← List.map_reverse]
      rw [er] at s2 hR ⊢
      generalize upd G R (.lst (vi ((ys.take (t + 1)).reverse))) = G2 at s2 hR ⊢
      have hxG2 := s2 _ _ hxG
      refine ⟨la, R, _, _, rfl, .inl (.inl hxG2), .inl (.inl hR), fun D nD => ?_⟩
      have hmin : min (vi xs).length (vi ((ys.take (t + 1)).reverse)).length = t + 1 := by
        rw [vi_len, vi_len, List.length_reverse, List.length_take]; omega
      refine lc_ints (K := K) (walk_zip (xs := vi xs) (ys := vi ((ys.take (t + 1)).reverse)) rfl) (ci ((List.range (t + 1)).map fun i => xs.getD i 0 * ys.getD (t - i) 0)) (by rw [hmin]; simp [ci]) (by rw [hmin]; omega) nD (fun H' s' => ⟨.inl (.inl (s' _ _ hxG2)), .inl (.inl (s' _ _ hR))⟩) ?_ ?_ mono_pair (fun σ' H' Q Q' h => h _ _)
      · rintro i x H6 H6' hi s6 ⟨T, x1, x2, rfl, nT, rfl, e1, e2⟩ z hz Rq hRq
        rw [hmin] at hi
        have g1 : xs[i]? = some (xs.getD i 0) := by rw [List.getD_eq_getElem?_getD, List.getElem?_eq_getElem (show i < xs.length by omega)]; rfl
        have g2 : ((ys.take (t + 1)).reverse)[i]? = some (ys.getD (t - i) 0) := by
          have hl2 : (ys.take (t + 1)).length = t + 1 := by rw [List.length_take]; omega
          rw [List.getElem?_reverse (by omega), hl2, List.getElem?_take, if_pos (by omega), show t + 1 - 1 - i = t - i by omega, List.getD_eq_getElem?_getD, List.getElem?_eq_getElem (show t - i < ys.length by omega)]
          rfl
        dsimp only at e1 e2
        rw [vi_get g1] at e1
        rw [vi_get g2] at e2
        cases e1
        cases e2
        rw [ci, List.getElem?_map, List.getElem?_map, List.getElem?_range hi] at hz
        cases hz
        have h1 := bx _ (List.mem_of_getElem? g1)
        have h2 : ys.getD (t - i) 0 < 2 ^ 4000 := bY _ (by
          rw [List.getD_eq_getElem?_getD, List.getElem?_eq_getElem (show t - i < ys.length by omega)]
          exact List.getElem_mem _)
        have sT := same_upd (o := .tup [V.int ((xs.getD i 0 : Nat) : Int), V.int ((ys.getD (t - i) 0 : Nat) : Int)]) nT
        refine ⟨T, _, rfl, .inl (.inl upd_same), rfl, _, _, rfl, _, _, rfl, rfl, rfl, rfl, _, rfl, _, rfl, _, _, rfl, rfl, wide_mul (a := 4000) (b := 4000) (by rw [Int.natAbs_natCast]; exact h1) (by rw [Int.natAbs_natCast]; exact h2) (by decide) (by decide) (by decide), ?_⟩
        have := hRq _ sT
        exact this
      · intro G3 s3 hD
        refine ⟨D, _, rfl, .inl (.inl hD), ?_⟩
        have hC3 := s3 _ _ (s2 _ _ hC)
        have hlen : ((conv xs ys).take (t + 1)).length ≤ t + 1 := by rw [List.length_take]; omega
        refine ⟨C, _, _, rfl, rfl, hC3, sz61 (by rw [vi_len]; omega), ?_⟩
        refine ⟨_, _, _, rfl, Same.mut (s1.trans (s2.trans s3)) nC, ?_⟩
        rw [upd_same, ci_sum]
        have e : (conv xs ys).take (t + 1 + 1) = (conv xs ys).take (t + 1) ++ [((List.range (t + 1)).map fun i => xs.getD i 0 * ys.getD (t - i) 0).sum] := by
          rw [List.take_add_one (i := t + 1)]
          congr 1
          unfold conv
          rw [List.getElem?_cons_succ, List.getElem?_map, List.getElem?_range ht']
          rfl
        rw [e, vi_app]; rfl
    · rintro σ G ⟨y3, y4, y5, rfl, s1, hC⟩
      rw [vi_len] at hC
      have e : (conv xs ys).take (((xs.length : Nat) : Int).toNat + 1) = conv xs ys := List.take_of_length_le (by unfold conv; simp)
      rw [e] at hC
      exact ⟨.ref C, rfl, q G C s1 hC⟩
/-- the table of counts within (k, c) for n flushes -/
def cwT (n k c : Nat) : Nat → Nat → Option (List Nat) := fun b a => if k ≤ b + n ∧ b ≤ k ∧ c ≤ a + n ∧ a ≤ c ∧ (k - b) + (c - a) ≤ n then some (cwL b a (n - (k - b) - (c - a))) else none
def sp_counts_withinN (K : PySem.W.Frag) (P : Program) (w : World) : Sp := fun vs H Q _ => ∃ n k c : Nat, vs = [.int (n : Int), .int (k : Int), .int (c : Int)] ∧ n ≤ 60 ∧ k ≤ 60 ∧ c ≤ 60 ∧ ∀ H' p, Same H H' → TabL K P w H' p 4000 (cwT n k c) → Q (.ref p) H'
theorem ok_counts_withinN (TX : Tx K mg) : FnOk P w K mg base CX0 2 TX.a_counts_within TX.fd_counts_within ["n", "k", "c"] (sp_counts_withinN K P w) := by
  refine TX.f_counts_within.ok sc_counts_within (fun vs H Q E h => ?_) (fun cdv A outer s H vs Q E hr h => ?_)
  · obtain ⟨n, k, c, rfl, _⟩ := h; rfl
  · obtain ⟨n, k, c, rfl, hn, hk, hc, q⟩ := h
    refine ⟨_, (pss_cons (ps_set (i := 3) sc_counts_within.nd rfl (.inl rfl) (pe_nnew (K := K) (P := P) (w := w) rfl rfl rfl))
      (pss_cons (ps_for PassesOwn.never rfl (pi_range2 (by rfl) TX.b_range (pa_cons (pe_callB (id := "max") (call_max2 rfl) (by rfl) TX.b_max (by decide +kernel) (pa_cons pe_int (pa_cons (pe_op op_sub (pv 1) (pv 0)) pa_nil))) (pa_cons (pe_op op_add (pv 1) pe_int) pa_nil))) (pg_name (i := 4) sc_counts_within.nd rfl (.inl rfl))
        (pss_one (ps_for PassesOwn.never rfl (pi_range2 (by rfl) TX.b_range (pa_cons (pe_callB (id := "max") (call_max2 rfl) (by rfl) TX.b_max (by decide +kernel) (pa_cons pe_int (pa_cons (pe_op op_sub (pv 2) (pv 0)) pa_nil))) (pa_cons (pe_op op_add (pv 2) pe_int) pa_nil))) (pg_name (i := 5) sc_counts_within.nd rfl (.inl rfl))
          (pss_cons (ps_set (i := 6) sc_counts_within.nd rfl (.inl rfl) (pe_op op_sub (pe_op op_sub (pv 0) (pe_op op_sub (pv 1) (pv 4))) (pe_op op_sub (pv 2) (pv 5))))
          (pss_cons (ps_if (pt_cmpR op_lt (pv 6) pe_int (nomark _))
            (pss_one ps_continue)
            pss_nil)
          (pss_one (ps_if (PW.pt (pw_or (pt_cmpR op_eq (pv 6) pe_int (nomark _)) (pw_or (pt_cmpR op_eq (pv 4) pe_int (nomark _)) (pw_or1 (pt_cmpR op_eq (pv 5) pe_int (nomark _))))))
            (pss_one (ps_nput (K := K) (P := P) (w := w) rfl rfl rfl (hu_of hr) (pv 3) (pe_tup (pa_cons (pv 4) (pa_cons (pv 5) pa_nil))) (pe_op op_cat (pe_lst (pa_cons pe_int pa_nil)) (pe_op op_rep (pe_lst (pa_cons pe_int pa_nil)) (pv 6))) (by rfl)))
            (pss_one (ps_nput (K := K) (P := P) (w := w) rfl rfl rfl (hu_of hr) (pv 3) (pe_tup (pa_cons (pv 4) (pa_cons (pv 5) pa_nil))) (pe_call (ok_counts_by_sizeN TX) (hr.mono (by decide)) (by rfl) TX.g_counts_by_size TX.f_counts_by_size.kp TX.bd_counts_by_size .nil pass0 (pa_cons (pe_nget (K := K) (P := P) (w := w) rfl rfl rfl (hu_of hr) (pv 3) (pe_tup (pa_cons (pv 4) (pa_cons (pe_op op_sub (pv 5) pe_int) pa_nil))) (fun _ _ => rfl)) (pa_cons (pe_nget (K := K) (P := P) (w := w) rfl rfl rfl (hu_of hr) (pv 3) (pe_tup (pa_cons (pe_op op_sub (pv 4) pe_int) (pa_cons (pv 5) pa_nil))) (fun _ _ => rfl)) pa_nil))) (by rfl))))))))))
      (pss_one (ps_ret (pv 3))))), ?_⟩
    refine fun d H0 nd s0 hd => ?_
    have emax : ∀ x y : Nat, (if ((x : Int) - (y : Int)) > 0 then ((x : Int) - (y : Int)) else 0) = ((x - y : Nat) : Int) := fun x y => by split <;> omega
    refine ⟨_, rfl, _, rfl, _, _, rfl, rfl, _, _, rfl, _, rfl, _, _, rfl, rfl, _, _, rfl, ?_, ?_⟩
    · rw [emax]; exact ⟨by omega, by omega, by omega, by omega⟩
    rw [emax]
    refine for_range (lo := ((k - n : Nat) : Int)) (n := ((k : Int) + 1 - ((k - n : Nat) : Int)).toNat) (fun i σ G => ∃ y4 y5 y6, σ = [some (.int (n : Int)), some (.int (k : Int)), some (.int (c : Int)), some (.ref d), y4, y5, y6] ∧ Same H G ∧ TabL K P w G d (61 * i) (fun b a => if b < k - n + i then cwT n k c b a else none)) ⟨_, _, _, rfl, s0, (TabL.new hd).extN fun b a xs e => by
      by_cases h : b < k - n + 0
      · rw [if_pos h] at e
        unfold cwT at e
        rw [if_neg (by omega)] at e; cases e
      · rw [if_neg h] at e; cases e⟩ ?_ ?_
    rotate_left
    · rintro σ G ⟨y4, y5, y6, rfl, s1, t1⟩
      refine ⟨.ref d, rfl, q G d s1 ?_⟩
      obtain ⟨kvs, g1, g2, g3⟩ := t1
      refine ⟨kvs, g1, by omega, fun b a xs e => g3 b a xs ?_⟩
      dsimp only
      have hb : b ≤ k := by
        unfold cwT at e
        by_cases h : k ≤ b + n ∧ b ≤ k ∧ c ≤ a + n ∧ a ≤ c ∧ (k - b) + (c - a) ≤ n
        · exact h.2.1
        · rw [if_neg h] at e; cases e
      rw [if_pos (by omega)]; exact e
    rintro i σ G hi ⟨y4, y5, y6, rfl, s1, t1⟩
    obtain ⟨b, hb⟩ : ∃ b, b = k - n + i := ⟨_, rfl⟩
    have hbk : b ≤ k := by omega
    have eb : ((k - n : Nat) : Int) + (i : Nat) = (b : Int) := by omega
    rw [eb]
    refine ⟨_, rfl, _, rfl, _, _, rfl, rfl, _, _, rfl, _, rfl, _, _, rfl, rfl, _, _, rfl, ?_, ?_⟩
    · rw [emax]; exact ⟨by omega, by omega, by omega, by omega⟩
    rw [emax]
    refine for_range (lo := ((c - n : Nat) : Int)) (n := ((c : Int) + 1 - ((c - n : Nat) : Int)).toNat) (fun j σ G => ∃ y5 y6, σ = [some (.int (n : Int)), some (.int (k : Int)), some (.int (c : Int)), some (.ref d), some (.int (b : Int)), y5, y6] ∧ Same H G ∧ TabL K P w G d (61 * i + j) (fun b' a => if b' < b ∨ (b' = b ∧ a < c - n + j) then cwT n k c b' a else none)) ⟨_, _, rfl, s1, t1.extN fun b' a xs e => by
      by_cases h : b' < b ∨ (b' = b ∧ a < c - n + 0)
      · rw [if_pos h] at e
        rcases h with h | ⟨h, h2⟩
        · rw [if_pos (by omega)]; exact e
        · unfold cwT at e
          rw [if_neg (by omega)] at e; cases e
      · rw [if_neg h] at e; cases e⟩ ?_ ?_
    rotate_left
    · rintro σ G2 ⟨y5, y6, rfl, s2, t2⟩
      refine ⟨_, _, _, rfl, s2, ?_⟩
      obtain ⟨kvs, g1, g2, g3⟩ := t2
      refine ⟨kvs, g1, by omega, fun b' a xs e => g3 b' a xs ?_⟩
      dsimp only at e ⊢
      by_cases h : b' < k - n + (i + 1)
      · rw [if_pos h] at e
        have ha : a ≤ c := by
          unfold cwT at e
          by_cases h : k ≤ b' + n ∧ b' ≤ k ∧ c ≤ a + n ∧ a ≤ c ∧ (k - b') + (c - a) ≤ n
          · exact h.2.2.2.1
          · rw [if_neg h] at e; cases e
        rw [if_pos (by omega)]; exact e
      · rw [if_neg h] at e; cases e
    rintro j σ G2 hj ⟨y5, y6, rfl, s2, t2⟩
    obtain ⟨a, ha⟩ : ∃ a, a = c - n + j := ⟨_, rfl⟩
    have hac : a ≤ c := by omega
    have ea : ((c - n : Nat) : Int) + (j : Nat) = (a : Int) := by omega
    rw [ea]
    have same' : ∀ {G3 G4 : Hp}, Same H G3 → (∀ u, u ≠ d → G4 u = G3 u) → Same H G4 := fun s h u o e => by
      have hu : u ≠ d := fun z => by rw [z, nd] at e; cases e
      rw [h u hu]; exact s _ _ e
    refine ⟨_, rfl, _, rfl, _, rfl, _, _, rfl, rfl, _, _, rfl, rfl, _, rfl, _, rfl, _, _, rfl, rfl, _, _, rfl, rfl, _, rfl, _, _, rfl, rfl, _, rfl, ?_⟩
    by_cases hm : (k - b) + (c - a) ≤ n
    · refine decF (by omega) ?_
      obtain ⟨m, em⟩ : ∃ m, m = n - (k - b) - (c - a) := ⟨_, rfl⟩
      have eM : (n : Int) - ((k : Int) - (b : Int)) - ((c : Int) - (a : Int)) = (m : Int) := by omega
      have hT : cwT n k c b a = some (cwL b a m) := by
        unfold cwT
        rw [if_pos (by omega), em]
      have fin : ∀ {G3 : Hp} {l : Addr} {y6 : Option V}, Same G2 G3 → G3 l = some (.lst (vi (cwL b a m))) → ∃ kvs, DN K P w G3 d kvs ∧ kvs.length < sizeLine ∧ DNput K P w G3 d kvs [(b : Int), (a : Int)] (.ref l) fun G4 => ∃ y5 y6', [some (V.int (n : Int)), some (.int (k : Int)), some (.int (c : Int)), some (.ref d), some (.int (b : Int)), some (.int (a : Int)), y6] = [some (.int (n : Int)), some (.int (k : Int)), some (.int (c : Int)), some (.ref d), some (.int (b : Int)), y5, y6'] ∧ Same H G4 ∧ TabL K P w G4 d (61 * i + (j + 1)) (fun b' a => if b' < b ∨ (b' = b ∧ a < c - n + (j + 1)) then cwT n k c b' a else none) := fun {G3 l y6} s3 hl => by
        obtain ⟨kvs, h1, h2, h3⟩ := (t2.same s3).put b a hl (by omega)
        refine ⟨kvs, h1, h2, fun G4 k1 _ k3 => ⟨_, _, rfl, same' (s2.trans s3) k1, (h3 G4 k1 k3).extN fun b' a' xs e => ?_⟩⟩
        by_cases h : b' = b ∧ a' = a
        · rw [if_pos h]
          rw [if_pos (by omega), h.1, h.2, hT] at e
          exact e
        · rw [if_neg h]
          by_cases h2 : b' < b ∨ (b' = b ∧ a' < c - n + (j + 1))
          · rw [if_pos h2] at e
            rw [if_pos (by omega)]; exact e
          · rw [if_neg h2] at e; cases e
      dsimp only
      rw [eM]
      have tor : ∀ Qb : Bool → Hp → Prop, Qb (decide (m = 0 ∨ b = 0 ∨ a = 0)) G2 → tOr (tTest (tOp rEq (tVar 6) (tC (V.int 0)))) (tOr (tTest (tOp rEq (tVar 4) (tC (V.int 0)))) (tTest (tOp rEq (tVar 5) (tC (V.int 0))))) (([some (V.int (n : Int)), some (V.int (k : Int)), some (V.int (c : Int)), some (V.ref d), some (V.int (b : Int)), y5, y6].set 5 (some (V.int (a : Int)))).set 6 (some (V.int (m : Int)))) G2 Qb := fun Qb hq => by
        refine ⟨_, rfl, rfl, _, rfl, ?_⟩
        by_cases h1 : m = 0
        · refine decT (by rw [h1]; rfl) ?_
          rw [decide_eq_true (.inl h1)] at hq; exact hq
        refine decF (int_ne (by omega)) ⟨_, rfl, rfl, _, rfl, ?_⟩
        by_cases h2 : b = 0
        · refine decT (by rw [h2]; rfl) ?_
          rw [decide_eq_true (.inr (.inl h2))] at hq; exact hq
        refine decF (int_ne (by omega)) ⟨_, rfl, rfl, _, rfl, ?_⟩
        by_cases h3 : a = 0
        · rw [decide_eq_true (.inr (.inr h3))] at hq
          rw [decide_eq_true (by rw [h3]; rfl)]; exact hq
        · rw [decide_eq_false (by omega)] at hq
          rw [decide_eq_false (int_ne (by omega))]; exact hq
      refine tor _ ?_
      have hdk := fun {G3 : Hp} (s3 : Same G2 G3) => (t2.same s3)
      by_cases he : m = 0 ∨ b = 0 ∨ a = 0
      · refine decT he ?_
        refine ⟨sz60 (by simp), fun l1 n1 => ⟨sz60 (by simp), fun l2 n2 => ⟨_, rfl, l2, _, _, rfl, rfl, upd_same, by omega, by omega, sz60 (by simp; omega), fun l3 n3 => ⟨l1, l3, [V.int 1], _, rfl, rfl, ?_, upd_same, sz60 (by rw [List.flatten_replicate_singleton]; simp; omega), fun l4 n4 => ?_⟩⟩⟩⟩
        · exact same_upd n3 _ _ (same_upd n2 _ _ upd_same)
        have z4 := ((same_upd n1 (o := .lst [V.int 1])).trans (same_upd n2 (o := .lst [V.int 0]))).trans ((same_upd n3).trans (same_upd n4 (o := .lst ([V.int 1] ++ (List.replicate ((m : Nat) : Int).toNat [V.int 0]).flatten))))
        have hl4 := upd_same (H := upd (upd (upd G2 l1 (.lst [V.int 1])) l2 (.lst [V.int 0])) l3 (.lst (List.replicate ((m : Nat) : Int).toNat [V.int 0]).flatten)) (a := l4) (o := .lst ([V.int 1] ++ (List.replicate ((m : Nat) : Int).toNat [V.int 0]).flatten))
        generalize upd (upd (upd (upd G2 l1 _) l2 _) l3 _) l4 _ = G3 at z4 hl4 ⊢
        have el : [V.int 1] ++ (List.replicate ((m : Nat) : Int).toNat [V.int 0]).flatten = vi (cwL b a m) := by
          rw [cwL_edge he, Int.toNat_natCast, List.flatten_replicate_singleton]
          show V.int 1 :: List.replicate m (V.int 0) = vi (1 :: List.replicate m 0)
          have := vi_rep m 0
          show _ = V.int 1 :: vi (List.replicate m 0)
          rw [this]; rfl
        rw [el] at hl4
        refine ⟨.ref d, rfl, _, rfl, _, rfl, sz60 (by simp), fun t nt => ?_⟩
        have z5 := same_upd (o := .tup [V.int (b : Int), V.int (a : Int)]) nt
        obtain ⟨kvs, h1, h2, h3⟩ := fin (y6 := some (V.int (m : Int))) (z4.trans z5) (z5 _ _ hl4)
        exact ⟨d, t, kvs, [(b : Int), (a : Int)], rfl, rfl, h1, .inl (.inl upd_same), h2, h3⟩
      · refine decF he ?_
        obtain ⟨b', rfl⟩ : ∃ b', b = b' + 1 := ⟨b - 1, by omega⟩
        obtain ⟨a', rfl⟩ : ∃ a', a = a' + 1 := ⟨a - 1, by omega⟩
        obtain ⟨m', rfl⟩ : ∃ m', m = m' + 1 := ⟨m - 1, by omega⟩
        have hT1 : (if b' + 1 < b' + 1 ∨ (b' + 1 = b' + 1 ∧ a' < c - n + j) then cwT n k c (b' + 1) a' else none) = some (cwL (b' + 1) a' m') := by
          rw [if_pos (by omega)]
          unfold cwT
          rw [if_pos (by omega)]
          congr 2; omega
        have hT2 : (if b' < b' + 1 ∨ (b' = b' + 1 ∧ a' + 1 < c - n + j) then cwT n k c b' (a' + 1) else none) = some (cwL b' (a' + 1) m') := by
          rw [if_pos (by omega)]
          unfold cwT
          rw [if_pos (by omega)]
          congr 2; omega
        have ea1 : ((a' + 1 : Nat) : Int) - 1 = (a' : Int) := by omega
        have eb1 : ((b' + 1 : Nat) : Int) - 1 = (b' : Int) := by omega
        refine ⟨.ref d, rfl, _, rfl, _, rfl, _, _, rfl, rfl, sz60 (by simp), fun t1 n1 => ?_⟩
        have z1 := same_upd (o := .tup [V.int ((b' + 1 : Nat) : Int), V.int (((a' + 1 : Nat) : Int) - 1)]) n1
        obtain ⟨kvs1, l1, g1, g2, g3⟩ := (t2.same z1).at hT1
        refine ⟨d, t1, kvs1, [((b' + 1 : Nat) : Int), (a' : Int)], .ref l1, rfl, rfl, g1, by rw [← ea1]; exact .inl (.inl upd_same), g2, ?_⟩
        generalize upd G2 t1 _ = G3 at z1 g1 g3 ⊢
        refine ⟨.ref d, rfl, _, rfl, _, _, rfl, rfl, _, rfl, sz60 (by simp), fun t3 n3 => ?_⟩
        have z3 := same_upd (o := .tup [V.int (((b' + 1 : Nat) : Int) - 1), V.int ((a' + 1 : Nat) : Int)]) n3
        obtain ⟨kvs2, l2, f1, f2, f3⟩ := (t2.same (z1.trans z3)).at hT2
        refine ⟨d, t3, kvs2, [(b' : Int), ((a' + 1 : Nat) : Int)], .ref l2, rfl, rfl, f1, by rw [← eb1]; exact .inl (.inl upd_same), f2, ?_⟩
        generalize upd G3 t3 _ = G4 at z3 f1 f3 ⊢
        have bnd : ∀ b a m : Nat, m ≤ 60 → ∀ x, x ∈ cwL b a m → x < 2 ^ 4000 := fun b a m hm x hx => by
          obtain ⟨s, hs, rfl⟩ := List.mem_map.mp hx
          have := List.mem_range.mp hs
          exact nB_lt (by omega)
        refine ⟨l1, l2, cwL (b' + 1) a' m', cwL b' (a' + 1) m', rfl, z3 _ _ g3, f3, by rw [cwL_len, cwL_len], by rw [cwL_len]; omega, bnd _ _ _ (by omega), bnd _ _ _ (by omega), fun G5 l5 s5 hl5 => ?_⟩
        rw [cwL_conv] at hl5
        refine ⟨.ref d, rfl, _, rfl, _, rfl, sz60 (by simp), fun t nt => ?_⟩
        have z5 := same_upd (o := .tup [V.int ((b' + 1 : Nat) : Int), V.int ((a' + 1 : Nat) : Int)]) nt
        obtain ⟨kvs, h1, h2, h3⟩ := fin (y6 := some (V.int ((m' + 1 : Nat) : Int))) ((z1.trans z3).trans (s5.trans z5)) (z5 _ _ hl5)
        exact ⟨d, t, kvs, [((b' + 1 : Nat) : Int), ((a' + 1 : Nat) : Int)], rfl, rfl, h1, .inl (.inl upd_same), h2, h3⟩
    · refine decT (by omega) ?_
      refine ⟨_, _, rfl, s2, ?_⟩
      obtain ⟨kvs, g1, g2, g3⟩ := t2
      refine ⟨kvs, g1, by omega, fun b' a' xs e => g3 b' a' xs ?_⟩
      dsimp only at e ⊢
      by_cases h : b' < b ∨ (b' = b ∧ a' < c - n + (j + 1))
      · rw [if_pos h] at e
        by_cases h2 : b' = b ∧ a' = a
        · unfold cwT at e
          rw [if_neg (by omega)] at e; cases e
        · rw [if_pos (by omega)]; exact e
      · rw [if_neg h] at e; cases e
end
section
variable {P : Program} {w : World} {K : PySem.W.Frag} {mg : Str → Option Value} {base : Heap}
end
/-! ### the place of a tree among those of its size within budgets -/
def Wi : T → Nat → Nat → Prop
  | .nil, _, _ => True
  | .node l r, b, a => 1 ≤ b ∧ 1 ≤ a ∧ Wi l b (a - 1) ∧ Wi r (b - 1) a
/-- those whose roots stand before the o-th -/
def pfs (b a s : Nat) (o : Nat) : Nat := ((List.range o).map fun i => nB b (a - 1) i * nB (b - 1) a (s - i)).sum
def plc : T → Nat → Nat → Nat
  | .nil, _, _ => 0
  | .node l r, b, a => pfs b a (l.size + r.size) l.size + plc l b (a - 1) * nB (b - 1) a r.size + plc r (b - 1) a
theorem pfs_succ (b a s o : Nat) : pfs b a s (o + 1) = pfs b a s o + nB b (a - 1) o * nB (b - 1) a (s - o) := by
  unfold pfs
  rw [List.range_succ, List.map_append, List.sum_append]
  simp
theorem pfs_le {b a s : Nat} {i n : Nat} (h : i ≤ n) : pfs b a s i ≤ pfs b a s n := by
  induction n with
  | zero => rw [show i = 0 by omega]; exact Nat.le_refl _
  | succ n ih =>
    by_cases e : i = n + 1
    · rw [e]; exact Nat.le_refl _
    · have := ih (by omega)
      rw [pfs_succ]; omega
theorem nB_pfs {b a s : Nat} (hb : 1 ≤ b) (ha : 1 ≤ a) : nB b a (s + 1) = pfs b a s (s + 1) := by
  obtain ⟨b', rfl⟩ : ∃ b', b = b' + 1 := ⟨b - 1, by omega⟩
  obtain ⟨a', rfl⟩ : ∃ a', a = a' + 1 := ⟨a - 1, by omega⟩
  rw [nB_s]; rfl
theorem plc_lt : ∀ {t : T} {b a : Nat}, Wi t b a → plc t b a < nB b a t.size
  | .nil, b, a, _ => by
    show 0 < nB b a 0
    rw [nB_z]; exact Nat.one_pos
  | .node l r, b, a, ⟨hb, ha, hl, hr⟩ => by
    have h1 := plc_lt hl
    have h2 := plc_lt hr
    have e : (T.node l r).size = (l.size + r.size) + 1 := by show l.size + 1 + r.size = _; omega
    rw [e, nB_pfs hb ha]
    have h3 := pfs_le (b := b) (a := a) (s := l.size + r.size) (i := l.size + 1) (n := l.size + r.size + 1) (by omega)
    rw [pfs_succ, show l.size + r.size - l.size = r.size by omega] at h3
    show pfs b a (l.size + r.size) l.size + plc l b (a - 1) * nB (b - 1) a r.size + plc r (b - 1) a < _
    have h4 := Nat.mul_le_mul_right (nB (b - 1) a r.size) (show plc l b (a - 1) + 1 ≤ nB b (a - 1) l.size by omega)
    rw [Nat.succ_mul] at h4
    omega
/-- the rest before the root's own product -/
theorem plc_rest {l r : T} {b a : Nat} (h : Wi (.node l r) b a) : (plc l b (a - 1) * nB (b - 1) a r.size + plc r (b - 1) a) / nB (b - 1) a r.size = plc l b (a - 1) ∧ (plc l b (a - 1) * nB (b - 1) a r.size + plc r (b - 1) a) % nB (b - 1) a r.size = plc r (b - 1) a ∧ plc l b (a - 1) * nB (b - 1) a r.size + plc r (b - 1) a < nB b (a - 1) l.size * nB (b - 1) a r.size := by
  obtain ⟨hb, ha, hl, hr⟩ := h
  have h1 := plc_lt hl
  have h2 := plc_lt hr
  refine ⟨?_, ?_, ?_⟩
  · rw [Nat.mul_comm, Nat.mul_add_div (by omega), Nat.div_eq_of_lt h2]; rfl
  · rw [Nat.mul_comm, Nat.mul_add_mod, Nat.mod_eq_of_lt h2]
  · have h4 := Nat.mul_le_mul_right (nB (b - 1) a r.size) (show plc l b (a - 1) + 1 ≤ nB b (a - 1) l.size by omega)
    rw [Nat.succ_mul] at h4
    omega
theorem wi_mono : ∀ {t : T} {b a b' a' : Nat}, Wi t b a → b ≤ b' → a ≤ a' → Wi t b' a'
  | .nil, _, _, _, _, _, _, _ => trivial
  | .node l r, b, a, b', a', ⟨hb, ha, hl, hr⟩, h1, h2 => ⟨by omega, by omega, wi_mono hl h1 (by omega), wi_mono hr (by omega) h2⟩
/-- a tree is within budgets of its own size -/
theorem wi_size : ∀ {t : T} {b a : Nat}, t.size ≤ b → t.size ≤ a → Wi t b a
  | .nil, _, _, _, _ => trivial
  | .node l r, b, a, h1, h2 => by
    have e : (T.node l r).size = l.size + 1 + r.size := rfl
    exact ⟨by omega, by omega, wi_size (by omega) (by omega), wi_size (by omega) (by omega)⟩
theorem wi_of : ∀ {t : T} {b a : Nat}, (∀ x, x ∈ t.rc → x ≤ b) → (∀ x, x ∈ t.wr → x ≤ a) → Wi t b a
  | .nil, _, _, _, _ => trivial
  | .node l r, b, a, h1, h2 => by
    have e1 : (T.node l r).rc = l.rc ++ 1 :: r.rc.map (· + 1) := by simp [T.rc]
    have e2 : (T.node l r).wr = l.wr.map (· + 1) ++ 1 :: r.wr := by simp [T.wr]
    rw [e1] at h1
    rw [e2] at h2
    have p1 := h1 1 (by simp)
    have p2 := h2 1 (by simp)
    refine ⟨p1, p2, wi_of (fun x hx => h1 x (by simp [hx])) (fun x hx => ?_), wi_of (fun x hx => ?_) (fun x hx => h2 x (by simp [hx]))⟩
    · have := h2 (x + 1) (by simp [hx]); omega
    · have := h1 (x + 1) (by simp [hx]); omega
theorem wi_rc : ∀ {t : T} {b a : Nat}, Wi t b a → (∀ x, x ∈ t.rc → x ≤ b) ∧ ∀ x, x ∈ t.wr → x ≤ a
  | .nil, _, _, _ => ⟨(fun x h => nomatch h), (fun x h => nomatch h)⟩
  | .node l r, b, a, ⟨hb, ha, hl, hr⟩ => by
    have e1 : (T.node l r).rc = l.rc ++ 1 :: r.rc.map (· + 1) := by simp [T.rc]
    have e2 : (T.node l r).wr = l.wr.map (· + 1) ++ 1 :: r.wr := by simp [T.wr]
    obtain ⟨l1, l2⟩ := wi_rc hl
    obtain ⟨r1, r2⟩ := wi_rc hr
    rw [e1, e2]
    refine ⟨fun x hx => ?_, fun x hx => ?_⟩
    · rcases List.mem_append.mp hx with h | h
      · exact l1 x h
      · rcases List.mem_cons.mp h with rfl | h
        · exact hb
        · obtain ⟨y, hy, rfl⟩ := List.mem_map.mp h
          have := r1 y hy; omega
    · rcases List.mem_append.mp hx with h | h
      · obtain ⟨y, hy, rfl⟩ := List.mem_map.mp h
        have := l2 y hy; omega
      · rcases List.mem_cons.mp h with rfl | h
        · exact ha
        · exact r2 x h
section
variable {P : Program} {w : World} {K : PySem.W.Frag} {mg : Str → Option Value} {base : Heap}
def sp_root_ofN (K : PySem.W.Frag) : Sp := fun vs H Q _ => ∃ (a : Addr) (l r : T), vs = [.ref a] ∧ SqT K H a (vi (T.node l r).sch) ∧ (T.node l r).size ≤ 60 ∧ ∀ H', Same H H' → Q (.int (l.size : Int)) H'
theorem ok_root_ofN (TX : Tx K mg) : FnOk P w K mg base CX0 1 TX.a_root_of TX.fd_root_of ["schedule"] (sp_root_ofN K) := by
  refine TX.f_root_of.ok sc_root_of (fun vs H Q E h => ?_) (fun cdv A outer s H vs Q E hr h => ?_)
  · obtain ⟨a, l, r, rfl, _⟩ := h; rfl
  · obtain ⟨a, l, r, rfl, hS, hz, q⟩ := h
    refine ⟨_, (pss_cons (ps_set (i := 1) sc_root_of.nd rfl (.inl rfl) pe_int)
      (pss_cons (ps_set (i := 2) sc_root_of.nd rfl (.inl rfl) pe_int)
      (pss_cons (ps_for PassesOwn.never rfl (pi_enumT (by rfl) TX.b_enumerate (pa_cons (pv 0) pa_nil)) (pg_tup rfl (pgs_cons (pg_name (i := 3) sc_root_of.nd rfl (.inl rfl)) (pgs_cons (pg_name (i := 4) sc_root_of.nd rfl (.inl rfl)) pgs_nil)))
        (pss_cons (ps_aug (i := 2) sc_root_of.nd rfl (.inl rfl) (pe_op op_sub pe_int (pv 4)) ip_add)
        (pss_one (ps_if (pt_cmpR op_eq (pv 2) pe_int (nomark _))
          (pss_one (ps_set (i := 1) sc_root_of.nd rfl (.inl rfl) (pv 3)))
          pss_nil))))
      (pss_one (ps_ret (pv 1)))))), ?_⟩
    have hlen : (vi (T.node l r).sch).length = (T.node l r).size := by rw [vi_len, T.sch_len]
    refine ⟨.ref a, rfl, a, _, rfl, hS, for_it walk_enumT (fun i σ H' => ∃ (ρ : Int) (y3 y4 : Option V), σ = [some (.ref a), some (.int ρ), some (.int ((pre (.node l r) i).runs : Int)), y3, y4] ∧ Same H H' ∧ (l.size < i → ρ = (l.size : Int))) ⟨0, none, none, rfl, Same.refl _, fun h => absurd h (Nat.not_lt_zero _)⟩ (fun i σ H' _ ⟨_, _, _, _, h, _⟩ => Same.tup h hS) ?_ ?_⟩
    · rintro i x σ H2 H3 hi ⟨ρ, y3, y4, rfl, sm, hρ⟩ hy
      obtain ⟨Tp, x1, x2, rfl, nT, rfl, e1, e2⟩ := hy
      cases e1
      have hi' : i < (T.node l r).sch.length := by rw [vi_len] at hi; exact hi
      have hi2 : i < (T.node l r).size := by rw [← T.sch_len]; exact hi'
      have hm := List.getElem?_eq_getElem hi'
      replace e2 : (vi (T.node l r).sch)[i]? = some x2 := e2
      rw [vi_get hm] at e2
      cases e2
      obtain ⟨g1, g2⟩ := pre_succ hm
      have g3 := T.push_runs _ _ g2
      have g4 := pre_runs hi2
      obtain ⟨m, hmm⟩ : ∃ m, m = (T.node l r).sch[i] := ⟨_, rfl⟩
      rw [← hmm] at hm g1 g2 g3 ⊢
      have sT : Same H2 (upd H2 Tp (.tup [.int (i : Nat), .int (m : Int)])) := same_upd nT
      have er : ((pre (.node l r) i).runs : Int) + (1 - (m : Int)) = ((pre (.node l r) (i + 1)).runs : Int) := by rw [g1, g3]; omega
      refine ⟨Tp, _, rfl, .inl (.inl upd_same), rfl, _, _, rfl, _, _, rfl, rfl, ?_⟩
      refine ⟨_, rfl, _, rfl, _, _, rfl, rfl, _, _, rfl, rfl, ?_⟩
      refine ⟨_, rfl, rfl, _, rfl, ?_⟩
      by_cases h1 : (pre (.node l r) (i + 1)).runs = 1
      rotate_left
      · refine decF (int_ne (by dsimp only; rw [er]; omega)) ?_
        refine ⟨ρ, some (.int (i : Int)), some (.int (m : Int)), ?_, sm.trans sT, fun h => ?_⟩
        · show [_, _, _, _, _] = [_, _, _, _, _]
          rw [← er]
        · refine hρ ?_
          have := rc_root l r
          by_cases e : i = l.size
          · rw [e, this] at g4
            exact absurd (Option.some.inj g4).symm (by rw [← e]; exact h1)
          · omega
      · refine decT (by dsimp only; rw [er, h1]; rfl) ?_
        refine ⟨_, rfl, (i : Int), some (.int (i : Int)), some (.int (m : Int)), ?_, sm.trans sT, fun h => ?_⟩
        · show [_, _, _, _, _] = [_, _, _, _, _]
          rw [← er]
        · have : i ≤ l.size := rc_one (r := r) (by rw [g4, h1])
          omega
    · rintro σ H' ⟨ρ, y3, y4, rfl, sm, hρ⟩
      exact ⟨_, rfl, by rw [hρ (by rw [hlen]; show l.size < l.size + 1 + r.size; omega)]; exact q _ sm⟩
end
section
variable {P : Program} {w : World} {K : PySem.W.Frag} {mg : Str → Option Value} {base : Heap}
theorem pfs_ci (b a s n : Nat) : ((List.range n).map fun o => ((nB b (a - 1) o * nB (b - 1) a (s - o) : Nat) : Int)).sum = (pfs b a s n : Int) := by
  induction n with
  | zero => rfl
  | succ n ih =>
    rw [List.range_succ, List.map_append, List.sum_append, ih, pfs_succ]
    simp
theorem cwT_left {n k c b a s : Nat} (hn : (k - b) + (c - a) + (s + 1) ≤ n) (hb : b ≤ k) (ha : a ≤ c) (ha1 : 1 ≤ a) : cwT n k c b (a - 1) = some (cwL b (a - 1) (n - (k - b) - (c - (a - 1)))) ∧ s ≤ n - (k - b) - (c - (a - 1)) := by
  unfold cwT
  rw [if_pos (by omega)]
  exact ⟨rfl, by omega⟩
theorem cwT_right {n k c b a s : Nat} (hn : (k - b) + (c - a) + (s + 1) ≤ n) (hb : b ≤ k) (ha : a ≤ c) (hb1 : 1 ≤ b) : cwT n k c (b - 1) a = some (cwL (b - 1) a (n - (k - (b - 1)) - (c - a))) ∧ s ≤ n - (k - (b - 1)) - (c - a) := by
  unfold cwT
  rw [if_pos (by omega)]
  exact ⟨rfl, by omega⟩
def spq_plc (m : Nat) (K : PySem.W.Frag) (P : Program) (w : World) : Sp := fun vs H Q _ => ∃ (x d : Addr) (t : T) (b a n k c N : Nat), vs = [.ref x, .int (b : Int), .int (a : Int), .ref d] ∧ SqT K H x (vi t.sch) ∧ TabL K P w H d N (cwT n k c) ∧ n ≤ 60 ∧ b ≤ k ∧ a ≤ c ∧ (k - b) + (c - a) + t.size ≤ n ∧ Wi t b a ∧ t.size < m ∧ ∀ H', Same H H' → Q (.int (plc t b a : Int)) H'
theorem okq_plc (TX : Tx K mg) : ∀ m : Nat, FnOk P w K mg base CX0 (1 + m) TX.a_place_of TX.fd_place_of ["schedule", "b", "a", "counts"] (spq_plc m K P w)
  | 0 => ⟨fun vs H Q E h => by obtain ⟨_, _, t, _, _, _, _, _, _, _, _, _, _, _, _, _, _, h, _⟩ := h; omega, fun A outer s H args us vs Q E _ _ _ _ h => by obtain ⟨_, _, t, _, _, _, _, _, _, _, _, _, _, _, _, _, _, h, _⟩ := h; omega⟩
  | m + 1 => by
    have ih := okq_plc TX m
    refine TX.f_place_of.ok (k := 1 + m) sc_place_of (fun vs H Q E h => ?_) (fun cdv A outer s H vs Q E hr h => ?_)
    · obtain ⟨x, d, t, b, a, n, k, c, N, rfl, _⟩ := h; rfl
    · obtain ⟨x, d, t, b, a, n, k, c, N, rfl, hS, hT, hn, hb, ha, hz, hw, hm, q⟩ := h
      refine ⟨_, (pss_cons (ps_if (pt_not (pt_truth (pv 0) (by intro _; rfl)))
        (pss_one (ps_ret pe_int))
        pss_nil)
      (pss_cons (ps_set (i := 4) sc_place_of.nd rfl (.inl rfl) (pe_call (ok_root_ofN TX) (hr.mono (by omega)) (by rfl) TX.g_root_of TX.f_root_of.kp TX.bd_root_of .nil pass0 (pa_cons (pv 0) pa_nil)))
      (pss_cons (ps_set (i := 5) sc_place_of.nd rfl (.inr rfl) (pe_op op_sub (pe_callB (id := "len") (k_len (K := K) rfl) (by rfl) TX.b_len (by decide +kernel) (pa_cons (pv 0) pa_nil)) pe_int))
      (pss_cons (ps_set (i := 6) sc_place_of.nd rfl (.inr rfl) (pe_nget (K := K) (P := P) (w := w) rfl rfl rfl (hu_of hr) (pv 3) (pe_tup (pa_cons (pv 1) (pa_cons (pe_op op_sub (pv 2) pe_int) pa_nil))) (fun _ _ => rfl)))
      (pss_cons (ps_set (i := 7) sc_place_of.nd rfl (.inr rfl) (pe_nget (K := K) (P := P) (w := w) rfl rfl rfl (hu_of hr) (pv 3) (pe_tup (pa_cons (pe_op op_sub (pv 1) pe_int) (pa_cons (pv 2) pa_nil))) (fun _ _ => rfl)))
      (pss_cons (ps_set (i := 8) sc_place_of.nd rfl (.inl rfl) (pe_callB (id := "sum") (cr_sum rfl) (by rfl) TX.b_sum (by decide +kernel) (pa_cons (pe_lc (own := [("other", 10)]) (by rfl) sc_place_of.nd (pi_range1 (by rfl) TX.b_range (pa_cons (pv 4) pa_nil)) (blkOk_by (own := [("other", 10)]) (N := N_place_of) (sc := defScope s_place_of) (by decide +kernel)) (fun _ _ _ _ _ => (pg_name (i := 10) sc_place_of.nd rfl (Or.inl rfl))) (fun _ _ _ _ _ => pts_nil) (fun _ _ _ _ _ => (pe_op op_mulW (pe_ix (k_ixL (K := K) rfl) (pv 6) (pv 10) (fun _ _ => rfl)) (pe_ix (k_ixL (K := K) rfl) (pv 7) (pe_op op_sub (pv 5) (pv 10)) (fun _ _ => rfl))))) pa_nil)))
      (pss_cons (ps_set (i := 9) sc_place_of.nd rfl (.inl rfl) (pe_op op_mulW (pe_call ih (hr.mono (by omega)) (by rfl) TX.g_place_of TX.f_place_of.kp TX.bd_place_of .nil pass0 (pa_cons (pe_slice (k_slT (K := K) rfl) (pv 0) po_none (po_some (pv 4))) (pa_cons (pv 1) (pa_cons (pe_op op_sub (pv 2) pe_int) (pa_cons (pv 3) pa_nil))))) (pe_ix (k_ixL (K := K) rfl) (pv 7) (pe_op op_sub (pv 5) (pv 4)) (fun _ _ => rfl))))
      (pss_one (ps_ret (pe_op op_add (pe_op op_add (pv 8) (pv 9)) (pe_call ih (hr.mono (by omega)) (by rfl) TX.g_place_of TX.f_place_of.kp TX.bd_place_of .nil pass0 (pa_cons (pe_slice (k_slT (K := K) rfl) (pv 0) (po_some (pe_op op_add (pv 4) pe_int)) po_none) (pa_cons (pe_op op_sub (pv 1) pe_int) (pa_cons (pv 2) (pa_cons (pv 3) pa_nil))))))))))))))), ?_⟩
      cases t with
      | nil => exact ⟨.ref x, rfl, false, .inr (.inl ⟨_, hS, rfl⟩), iteT (q _ (Same.refl _))⟩
      | node l r =>
        obtain ⟨hb1, ha1, hwl, hwr⟩ := hw
        have hzn : (T.node l r).size = (l.size + r.size) + 1 := by show l.size + 1 + r.size = _; omega
        have lp : (vi (T.node l r).sch).length = l.size + 1 + r.size := by rw [vi_len, T.sch_len]; rfl
        have l1 : (vi l.sch).length = l.size := by rw [vi_len, T.sch_len]
        have e1 : vi (T.node l r).sch = vi l.sch ++ (V.int (l.runs : Int) :: vi r.sch) := by simp [T.sch, vi]
        obtain ⟨hT1, hL1⟩ := cwT_left (n := n) (k := k) (c := c) (b := b) (a := a) (s := l.size + r.size) (by omega) hb ha ha1
        obtain ⟨hT2, hL2⟩ := cwT_right (n := n) (k := k) (c := c) (b := b) (a := a) (s := l.size + r.size) (by omega) hb ha hb1
        have eb1 : (b : Int) - 1 = ((b - 1 : Nat) : Int) := by omega
        have ea1 : (a : Int) - 1 = ((a - 1 : Nat) : Int) := by omega
        refine ⟨.ref x, rfl, true, .inr (.inl ⟨_, hS, ?_⟩), iteF ?_⟩
        · rw [e1]
          cases vi l.sch <;> rfl
        refine ⟨.ref x, rfl, x, l, r, rfl, hS, by omega, fun H1 s1 => ?_⟩
        refine ⟨.ref x, rfl, x, _, rfl, .inr (Same.tup s1 hS), _, _, rfl, rfl, ?_⟩
        refine ⟨.ref d, rfl, _, rfl, _, rfl, _, _, rfl, rfl, sz60 (by simp), fun t1 n1 => ?_⟩
        have z1 := same_upd (o := .tup [V.int (b : Int), V.int ((a : Int) - 1)]) n1
        obtain ⟨kvs1, d1, g1, g2, g3⟩ := ((hT.same s1).same z1).at hT1
        refine ⟨d, t1, kvs1, [(b : Int), ((a - 1 : Nat) : Int)], .ref d1, rfl, rfl, g1, by rw [← ea1]; exact .inl (.inl upd_same), g2, ?_⟩
        generalize upd H1 t1 _ = H2 at z1 g1 g3 ⊢
        refine ⟨.ref d, rfl, _, rfl, _, _, rfl, rfl, _, rfl, sz60 (by simp), fun t2 n2 => ?_⟩
        have z2 := same_upd (o := .tup [V.int ((b : Int) - 1), V.int (a : Int)]) n2
        obtain ⟨kvs2, d2, f1, f2, f3⟩ := ((hT.same s1).same (z1.trans z2)).at hT2
        refine ⟨d, t2, kvs2, [((b - 1 : Nat) : Int), (a : Int)], .ref d2, rfl, rfl, f1, by rw [← eb1]; exact .inl (.inl upd_same), f2, ?_⟩
        generalize upd H2 t2 _ = H3 at z2 f1 f3 ⊢
        have s3 := s1.trans (z1.trans z2)
        have hd1 := z2 _ _ g3
        have bnd : ∀ {b a s : Nat}, s ≤ 60 → ((nB b a s : Nat) : Int).natAbs < 2 ^ 4000 := fun h => by rw [Int.natAbs_natCast]; exact nB_lt h
        have eRow : (((vi (T.node l r).sch).length : Int) - 1) = ((l.size + r.size : Nat) : Int) := by rw [lp]; omega
        refine ⟨_, rfl, _, rfl, by omega, by omega, fun D nD => lc_ints (K := K) walk_range (ci ((List.range l.size).map fun o => nB b (a - 1) o * nB (b - 1) a (l.size + r.size - o))) (by rw [ci, List.length_map, List.length_map, List.length_range]; omega) (by omega) nD (fun _ _ => trivial) ?_ ?_ (fun x σ' H' Q Q' h => h _ _) (fun σ' H' Q Q' h => h _ _)⟩
        · rintro i y H6 H6' hi s6 ⟨rfl, rfl⟩ z hz' R hR
          have hi' : i < l.size := by omega
          rw [ci, List.getElem?_map, List.getElem?_map, List.getElem?_range hi'] at hz'
          cases hz'
          have ei : (0 : Int) + (i : Nat) = (i : Int) := by omega
          refine ⟨rfl, rfl, _, rfl, _, rfl, d1, _, _, .int ((nB b (a - 1) i : Nat) : Int), rfl, rfl, .inl (.inl (s6 _ _ hd1)), ?_, ?_⟩
          · rw [ei]; exact at_vi (cwL_get (by omega))
          refine ⟨_, rfl, _, rfl, _, rfl, _, _, rfl, rfl, d2, _, _, .int ((nB (b - 1) a (l.size + r.size - i) : Nat) : Int), rfl, rfl, .inl (.inl (s6 _ _ f3)), ?_, ?_⟩
          · rw [ei, eRow, show ((l.size + r.size : Nat) : Int) - (i : Int) = ((l.size + r.size - i : Nat) : Int) by omega]
            exact at_vi (cwL_get (by omega))
          refine ⟨_, _, rfl, rfl, wide_mul (a := 4000) (b := 4000) (bnd (by omega)) (bnd (by omega)) (by decide) (by decide) (by decide), ?_⟩
          have := hR _ (Same.refl _)
          exact this
        · intro H4 s4 hD
          refine ⟨D, _, rfl, .inl (.inl hD), ?_⟩
          rw [ci_sum]
          have s4' := s3.trans s4
          have hS4 := Same.tup s4' hS
          refine ⟨.ref x, rfl, ?_⟩
          dsimp only [tNoPart]
          refine ⟨_, rfl, _, rfl, sl_read hS4 fun c1 H5 s5 hc1 => ?_⟩
          rw [cut_to (by rw [lp]; omega), e1, List.take_left' l1] at hc1
          have s05 := s4'.trans s5
          have hb3 := plc_lt hwl
          have hb4 := plc_lt hwr
          refine ⟨_, rfl, _, rfl, _, _, rfl, rfl, _, rfl, c1, d, l, b, a - 1, n, k, c, N, by rw [← ea1]; rfl, hc1, hT.same s05, hn, hb, by omega, by omega, hwl, by omega, fun H6 s6 => ?_⟩
          have f36 := (s4.trans (s5.trans s6)) _ _ f3
          refine ⟨_, rfl, _, rfl, _, rfl, _, _, rfl, rfl, d2, _, _, .int ((nB (b - 1) a r.size : Nat) : Int), rfl, rfl, .inl (.inl f36), ?_, ?_⟩
          · rw [eRow, show ((l.size + r.size : Nat) : Int) - (l.size : Int) = ((r.size : Nat) : Int) by omega]
            exact at_vi (cwL_get (by omega))
          refine ⟨_, _, rfl, rfl, wide_mul (a := 4000) (b := 4000) (by rw [Int.natAbs_natCast]; exact Nat.lt_trans hb3 (nB_lt (by omega))) (bnd (by omega)) (by decide) (by decide) (by decide), ?_⟩
          have hS6 := Same.tup (s05.trans s6) hS
          refine ⟨_, rfl, _, rfl, _, _, rfl, rfl, .ref x, rfl, _, rfl, _, _, rfl, rfl, _, rfl, ?_⟩
          dsimp only [tNoPart]
          refine sl_read hS6 fun c2 H7 s7 hc2 => ?_
          have ec : ((l.size : Int) + 1) = ((l.size + 1 : Nat) : Int) := by omega
          rw [ec, cut_from (by rw [lp]; omega), e1, List.drop_append, List.drop_eq_nil_of_le (by rw [l1]; omega), l1, show l.size + 1 - l.size = 1 by omega] at hc2
          have hc2' : SqT K H7 c2 (vi r.sch) := hc2
          have s07 := (s05.trans s6).trans s7
          refine ⟨_, rfl, _, _, rfl, rfl, _, rfl, _, rfl, c2, d, r, b - 1, a, n, k, c, N, by rw [← eb1]; rfl, hc2', hT.same s07, hn, by omega, ha, by omega, hwr, by omega, fun H8 s8 => ?_⟩
          refine ⟨_, _, rfl, rfl, ?_⟩
          have := q _ (s07.trans s8)
          exact this
def sp_place_ofN (K : PySem.W.Frag) (P : Program) (w : World) : Sp := spq_plc 61 K P w
theorem ok_place_ofN (TX : Tx K mg) : FnOk P w K mg base CX0 62 TX.a_place_of TX.fd_place_of ["schedule", "b", "a", "counts"] (sp_place_ofN K P w) := okq_plc TX 61
end
section
variable {P : Program} {w : World} {K : PySem.W.Frag} {mg : Str → Option Value} {base : Heap}
def spq_sip (m : Nat) (K : PySem.W.Frag) (P : Program) (w : World) : Sp := fun vs H Q _ => ∃ (d : Addr) (t : T) (b a n k c N : Nat), vs = [.int (t.size : Int), .int (b : Int), .int (a : Int), .int (plc t b a : Int), .ref d] ∧ TabL K P w H d N (cwT n k c) ∧ n ≤ 60 ∧ b ≤ k ∧ a ≤ c ∧ (k - b) + (c - a) + t.size ≤ n ∧ Wi t b a ∧ t.size < m ∧ ∀ H' p, Same H H' → SqT K H' p (vi t.sch) → Q (.ref p) H'
theorem okq_sip (TX : Tx K mg) : ∀ m : Nat, FnOk P w K mg base CX0 (1 + m) TX.a_schedule_in_place TX.fd_schedule_in_place ["n", "b", "a", "place", "counts"] (spq_sip m K P w)
  | 0 => ⟨fun vs H Q E h => by obtain ⟨_, t, _, _, _, _, _, _, _, _, _, _, _, _, _, h, _⟩ := h; omega, fun A outer s H args us vs Q E _ _ _ _ h => by obtain ⟨_, t, _, _, _, _, _, _, _, _, _, _, _, _, _, h, _⟩ := h; omega⟩
  | m + 1 => by
    have ih := okq_sip TX m
    refine TX.f_schedule_in_place.ok (k := 1 + m) sc_schedule_in_place (fun vs H Q E h => ?_) (fun cdv A outer s H vs Q E hr h => ?_)
    · obtain ⟨d, t, b, a, n, k, c, N, rfl, _⟩ := h; rfl
    · obtain ⟨d, t, b, a, n, k, c, N, rfl, hT, hn, hb, ha, hz, hw, hm, q⟩ := h
      refine ⟨_, (pss_cons (ps_if (pt_cmpR op_eq (pv 0) pe_int (nomark _))
        (pss_one (ps_ret (pe_tup pa_nil)))
        pss_nil)
      (pss_cons (ps_set (i := 5) sc_schedule_in_place.nd rfl (.inl rfl) (pe_nget (K := K) (P := P) (w := w) rfl rfl rfl (hu_of hr) (pv 4) (pe_tup (pa_cons (pv 1) (pa_cons (pe_op op_sub (pv 2) pe_int) pa_nil))) (fun _ _ => rfl)))
      (pss_cons (ps_set (i := 6) sc_schedule_in_place.nd rfl (.inl rfl) (pe_nget (K := K) (P := P) (w := w) rfl rfl rfl (hu_of hr) (pv 4) (pe_tup (pa_cons (pe_op op_sub (pv 1) pe_int) (pa_cons (pv 2) pa_nil))) (fun _ _ => rfl)))
      (pss_cons (ps_set (i := 7) sc_schedule_in_place.nd rfl (.inl rfl) pe_int)
      (pss_cons (ps_set (i := 8) sc_schedule_in_place.nd rfl (.inl rfl) (pv 3))
      (pss_cons (ps_while PassesOwn.never (pt_cmpR op_ge (pv 8) (pe_op op_mulW (pe_ix (k_ixL (K := K) rfl) (pv 5) (pv 7) (fun _ _ => rfl)) (pe_ix (k_ixL (K := K) rfl) (pv 6) (pe_op op_sub (pe_op op_sub (pv 0) pe_int) (pv 7)) (fun _ _ => rfl))) (nomark _))
        (pss_cons (ps_aug (i := 8) sc_schedule_in_place.nd rfl (.inl rfl) (pe_op op_mulW (pe_ix (k_ixL (K := K) rfl) (pv 5) (pv 7) (fun _ _ => rfl)) (pe_ix (k_ixL (K := K) rfl) (pv 6) (pe_op op_sub (pe_op op_sub (pv 0) pe_int) (pv 7)) (fun _ _ => rfl))) ip_sub)
        (pss_one (ps_aug (i := 7) sc_schedule_in_place.nd rfl (.inl rfl) pe_int ip_add))))
      (pss_cons (ps_asg (pe_callB (id := "divmod") call_divmodW (by rfl) TX.b_divmod (by decide +kernel) (pa_cons (pv 8) (pa_cons (pe_ix (k_ixL (K := K) rfl) (pv 6) (pe_op op_sub (pe_op op_sub (pv 0) pe_int) (pv 7)) (fun _ _ => rfl)) pa_nil))) (pg_tup rfl (pgs_cons (pg_name (i := 9) sc_schedule_in_place.nd rfl (.inl rfl)) (pgs_cons (pg_name (i := 10) sc_schedule_in_place.nd rfl (.inl rfl)) pgs_nil))))
      (pss_cons (ps_set (i := 11) sc_schedule_in_place.nd rfl (.inl rfl) (pe_call ih (hr.mono (by omega)) (by rfl) TX.g_schedule_in_place TX.f_schedule_in_place.kp TX.bd_schedule_in_place .nil pass0 (pa_cons (pv 7) (pa_cons (pv 1) (pa_cons (pe_op op_sub (pv 2) pe_int) (pa_cons (pv 9) (pa_cons (pv 4) pa_nil)))))))
      (pss_cons (ps_set (i := 12) sc_schedule_in_place.nd rfl (.inl rfl) (pe_call ih (hr.mono (by omega)) (by rfl) TX.g_schedule_in_place TX.f_schedule_in_place.kp TX.bd_schedule_in_place .nil pass0 (pa_cons (pe_op op_sub (pe_op op_sub (pv 0) pe_int) (pv 7)) (pa_cons (pe_op op_sub (pv 1) pe_int) (pa_cons (pv 2) (pa_cons (pv 10) (pa_cons (pv 4) pa_nil)))))))
      (pss_one (ps_ret (pe_op (k_catT (K := K) rfl) (pe_op (k_catT (K := K) rfl) (pv 11) (pe_tup (pa_cons (pe_call (ok_runs_at_endN TX) (hr.mono (by omega)) (by rfl) TX.g_runs_at_end TX.f_runs_at_end.kp TX.bd_runs_at_end .nil pass0 (pa_cons (pv 11) pa_nil)) pa_nil))) (pv 12))))))))))))), ?_⟩
      refine ⟨_, rfl, rfl, _, rfl, ?_⟩
      cases t with
      | nil => exact decT rfl ⟨sz60 (by simp), fun p np => q _ p (same_upd np) (.inl (.inl upd_same))⟩
      | node l r =>
        have hw' := hw
        obtain ⟨hb1, ha1, hwl, hwr⟩ := hw
        have hzn : (T.node l r).size = (l.size + r.size) + 1 := by show l.size + 1 + r.size = _; omega
        refine decF (int_ne (by omega)) ?_
        obtain ⟨hT1, hL1⟩ := cwT_left (n := n) (k := k) (c := c) (b := b) (a := a) (s := l.size + r.size) (by omega) hb ha ha1
        obtain ⟨hT2, hL2⟩ := cwT_right (n := n) (k := k) (c := c) (b := b) (a := a) (s := l.size + r.size) (by omega) hb ha hb1
        have eb1 : (b : Int) - 1 = ((b - 1 : Nat) : Int) := by omega
        have ea1 : (a : Int) - 1 = ((a - 1 : Nat) : Int) := by omega
        refine ⟨.ref d, rfl, _, rfl, _, rfl, _, _, rfl, rfl, sz60 (by simp), fun t1 n1 => ?_⟩
        have z1 := same_upd (o := .tup [V.int (b : Int), V.int ((a : Int) - 1)]) n1
        obtain ⟨kvs1, d1, g1, g2, g3⟩ := (hT.same z1).at hT1
        refine ⟨d, t1, kvs1, [(b : Int), ((a - 1 : Nat) : Int)], .ref d1, rfl, rfl, g1, by rw [← ea1]; exact .inl (.inl upd_same), g2, ?_⟩
        generalize upd H t1 _ = H2 at z1 g1 g3 ⊢
        refine ⟨.ref d, rfl, _, rfl, _, _, rfl, rfl, _, rfl, sz60 (by simp), fun t2 n2 => ?_⟩
        have z2 := same_upd (o := .tup [V.int ((b : Int) - 1), V.int (a : Int)]) n2
        obtain ⟨kvs2, d2, f1, f2, f3⟩ := (hT.same (z1.trans z2)).at hT2
        refine ⟨d, t2, kvs2, [((b - 1 : Nat) : Int), (a : Int)], .ref d2, rfl, rfl, f1, by rw [← eb1]; exact .inl (.inl upd_same), f2, ?_⟩
        generalize upd H2 t2 _ = H3 at z2 f1 f3 ⊢
        have s3 := z1.trans z2
        have hd1 := z2 _ _ g3
        have bnd : ∀ {b a s : Nat}, s ≤ 60 → ((nB b a s : Nat) : Int).natAbs < 2 ^ 4000 := fun h => by rw [Int.natAbs_natCast]; exact nB_lt h
        have eSub : ∀ ρ : Nat, ρ ≤ l.size → (((T.node l r).size : Int) - 1 - (ρ : Int)) = ((l.size + r.size - ρ : Nat) : Int) := fun ρ h => by omega
        obtain ⟨hdiv, hmod, hlast⟩ := plc_rest hw'
        have hplc : plc (.node l r) b a = pfs b a (l.size + r.size) l.size + plc l b (a - 1) * nB (b - 1) a r.size + plc r (b - 1) a := rfl
        have at1 : ∀ ρ : Nat, ρ ≤ l.size → atI (vi (cwL b (a - 1) (n - (k - b) - (c - (a - 1))))) (ρ : Int) = some (.int ((nB b (a - 1) ρ : Nat) : Int)) := fun ρ h => at_vi (cwL_get (by omega))
        have at2 : ∀ ρ : Nat, ρ ≤ l.size → atI (vi (cwL (b - 1) a (n - (k - (b - 1)) - (c - a)))) (((T.node l r).size : Int) - 1 - (ρ : Int)) = some (.int ((nB (b - 1) a (l.size + r.size - ρ) : Nat) : Int)) := fun ρ h => by rw [eSub ρ h]; exact at_vi (cwL_get (by omega))
        refine ⟨_, rfl, ?_⟩
        refine ⟨fun m σ G => ∃ ρ bf : Nat, σ = [some (.int ((T.node l r).size : Int)), some (.int (b : Int)), some (.int (a : Int)), some (.int (plc (.node l r) b a : Int)), some (.ref d), some (.ref d1), some (.ref d2), some (.int (ρ : Int)), some (.int (bf : Int)), none, none, none, none] ∧ G = H3 ∧ ρ + m = l.size ∧ bf + pfs b a (l.size + r.size) ρ = plc (.node l r) b a, ⟨l.size, 0, plc (.node l r) b a, rfl, rfl, by omega, by simp [pfs]⟩, ?_⟩
        rintro m' σ G ⟨ρ, bf, rfl, rfl, hρ, hbf⟩
        refine ⟨_, rfl, _, rfl, _, rfl, d1, _, _, _, rfl, rfl, .inl (.inl hd1), at1 ρ (by omega), ?_⟩
        refine ⟨_, rfl, _, rfl, _, _, rfl, rfl, _, rfl, _, _, rfl, rfl, d2, _, _, _, rfl, rfl, .inl (.inl f3), at2 ρ (by omega), ?_⟩
        refine ⟨_, _, rfl, rfl, wide_mul (a := 4000) (b := 4000) (bnd (by omega)) (bnd (by omega)) (by decide) (by decide) (by decide), ?_⟩
        refine ⟨_, _, rfl, rfl, ?_⟩
        have hps := pfs_succ b a (l.size + r.size) ρ
        by_cases hm0 : m' = 0
        rotate_left
        · have hle := pfs_le (b := b) (a := a) (s := l.size + r.size) (i := ρ + 1) (n := l.size) (by omega)
          have hge : nB b (a - 1) ρ * nB (b - 1) a (l.size + r.size - ρ) ≤ bf := by omega
          refine ⟨true, blT (by rw [← Int.natCast_mul]; omega), iteT ⟨_, fun σ' H' h => ⟨m' - 1, by omega, h⟩, ?_⟩⟩
          refine ⟨_, rfl, _, rfl, _, rfl, d1, _, _, _, rfl, rfl, .inl (.inl hd1), at1 ρ (by omega), ?_⟩
          refine ⟨_, rfl, _, rfl, _, _, rfl, rfl, _, rfl, _, _, rfl, rfl, d2, _, _, _, rfl, rfl, .inl (.inl f3), at2 ρ (by omega), ?_⟩
          refine ⟨_, _, rfl, rfl, wide_mul (a := 4000) (b := 4000) (bnd (by omega)) (bnd (by omega)) (by decide) (by decide) (by decide), ?_⟩
          refine ⟨_, _, rfl, rfl, ?_⟩
          refine ⟨_, rfl, _, _, rfl, rfl, ρ + 1, bf - nB b (a - 1) ρ * nB (b - 1) a (l.size + r.size - ρ), ?_, rfl, by omega, by omega⟩
          show [_, _, _, _, _, _, _, _, _, _, _, _, _] = [_, _, _, _, _, _, _, _, _, _, _, _, _]
          rw [Int.natCast_sub hge, Int.natCast_mul]
          rfl
        · obtain rfl : ρ = l.size := by omega
          have eLR : l.size + r.size - l.size = r.size := by omega
          have at3 := at2 l.size (Nat.le_refl _)
          rw [eLR] at at3 ⊢
          have ebf : bf = plc l b (a - 1) * nB (b - 1) a r.size + plc r (b - 1) a := by omega
          rw [← ebf] at hdiv hmod hlast
          refine ⟨false, blF (by rw [← Int.natCast_mul]; omega), iteF ?_⟩
          have hb3 := plc_lt hwl
          have hb4 := plc_lt hwr
          have hbf2 : bf < 2 ^ 4000 := by
            have h1 := plc_lt hw'
            have h2 := nB_lt (b := b) (a := a) (s := (T.node l r).size) (by omega)
            omega
          refine ⟨_, rfl, _, rfl, _, rfl, _, _, rfl, rfl, _, rfl, _, _, rfl, rfl, d2, _, _, _, rfl, rfl, .inl (.inl f3), at3, (bf : Int), ((nB (b - 1) a r.size : Nat) : Int), rfl, divp_nat (by omega) hbf2, fun p np => ?_⟩
          have ed : (bf : Int) / ((nB (b - 1) a r.size : Nat) : Int) = (plc l b (a - 1) : Int) := by rw [← hdiv]; rfl
          have em : (bf : Int) % ((nB (b - 1) a r.size : Nat) : Int) = (plc r (b - 1) a : Int) := by rw [← hmod]; rfl
          rw [ed, em]
          have s4 := same_upd (o := .tup [V.int (plc l b (a - 1) : Int), V.int (plc r (b - 1) a : Int)]) np
          refine ⟨p, _, rfl, .inl (.inl upd_same), rfl, _, _, rfl, _, _, rfl, rfl, ?_⟩
          generalize upd G p _ = H4 at s4 ⊢
          have s04 := s3.trans s4
          refine ⟨_, rfl, _, rfl, _, rfl, _, _, rfl, rfl, _, rfl, _, rfl, d, l, b, a - 1, n, k, c, N, by rw [← ea1]; rfl, hT.same s04, hn, hb, by omega, by omega, hwl, by omega, fun H5 p1 s5 h1 => ?_⟩
          refine ⟨_, rfl, _, _, rfl, rfl, _, rfl, _, _, rfl, rfl, _, rfl, _, _, rfl, rfl, _, rfl, _, rfl, _, rfl, d, r, b - 1, a, n, k, c, N, ?_, hT.same (s04.trans s5), hn, by omega, ha, by omega, hwr, by omega, fun H6 p2 s6 h2 => ?_⟩
          · rw [← eb1, show (r.size : Int) = ((T.node l r).size : Int) - 1 - (l.size : Int) by omega]; rfl
          have h1' := Same.tup s6 h1
          have s06 := (s04.trans s5).trans s6
          refine ⟨.ref p1, rfl, .ref p1, rfl, p1, l, rfl, h1', by omega, sz60 (by simp), fun p3 np3 => ?_⟩
          have s7 := same_upd (o := .tup [V.int (l.runs : Int)]) np3
          refine cat_read (Same.tup s7 h1') (.inl (.inl upd_same)) (by simp [vi_len, T.sch_len]; omega) fun p4 H8 s8 h4 => ⟨.ref p2, rfl, ?_⟩
          refine cat_read h4 (Same.tup (s7.trans s8) h2) (by simp [vi_len, T.sch_len]; omega) fun p5 H9 s9 h5 => q _ p5 ((s06.trans s7).trans (s8.trans s9)) ?_
          have e : vi (T.node l r).sch = vi l.sch ++ [V.int (l.runs : Int)] ++ vi r.sch := by simp [T.sch, vi]
          rw [e]
          exact h5
def sp_schedule_in_placeN (K : PySem.W.Frag) (P : Program) (w : World) : Sp := spq_sip 61 K P w
theorem ok_schedule_in_placeN (TX : Tx K mg) : FnOk P w K mg base CX0 62 TX.a_schedule_in_place TX.fd_schedule_in_place ["n", "b", "a", "place", "counts"] (sp_schedule_in_placeN K P w) := okq_sip TX 61
end
section
variable {P : Program} {w : World} {K : PySem.W.Frag} {mg : Str → Option Value} {base : Heap}
theorem fold_le {B : Int} : ∀ (r : List Int) (m : Int), m ≤ B → (∀ x, x ∈ r → x ≤ B) → r.foldl max m ≤ B
  | [], m, h, _ => h
  | x :: r, m, h, hr => fold_le r (max m x) (by have := hr x (by simp); omega) fun y hy => hr y (by simp [hy])
theorem max_le {K : PySem.W.Frag} {H : Hp} {a : Addr} {xs : List Nat} {B : Nat} {Q : VK} (h : SqT K H a (vi xs)) (hB : ∀ x, x ∈ xs → x ≤ B) (q : ∀ i : Int, i ≤ (B : Int) → Q (.int i) H) : rMaxDef K [.ref a] [.int 0] H Q := by
  refine ⟨a, 0, ci xs, rfl, rfl, by rw [← vi_ci]; exact h, fun _ => q 0 (by omega), fun m r e => q _ ?_⟩
  have hall : ∀ y, y ∈ ci xs → y ≤ (B : Int) := fun y hy => by
    obtain ⟨z, hz, rfl⟩ := List.mem_map.mp hy
    have := hB z hz
    omega
  rw [e] at hall
  exact fold_le r m (hall m (by simp)) fun y hy => hall y (by simp [hy])
def sp_index_withinN (K : PySem.W.Frag) : Sp := fun vs H Q _ => ∃ (x : Addr) (t : T) (k c : Nat), vs = [.ref x, .int (k : Int), .int (c : Int)] ∧ SqT K H x (vi t.sch) ∧ t.size ≤ 60 ∧ k ≤ 60 ∧ c ≤ 60 ∧ Wi t k c ∧ ∀ H', Same H H' → Q (.int (plc t k c : Int)) H'
theorem ok_index_withinN (TX : Tx K mg) : FnOk P w K mg base CX0 63 TX.a_index_within TX.fd_index_within ["schedule", "k", "c"] (sp_index_withinN K) := by
  refine TX.f_index_within.ok sc_index_within (fun vs H Q E h => ?_) (fun cdv A outer s H vs Q E hr h => ?_)
  · obtain ⟨x, t, k, c, rfl, _⟩ := h; rfl
  · obtain ⟨x, t, k, c, rfl, hS, hz, hk, hc, hw, q⟩ := h
    refine ⟨_, (pss_cons (ps_if (pt_not (pt_val (pe_call (ok_is_scheduleN TX) (hr.mono (by decide)) (by rfl) TX.g_is_schedule TX.f_is_schedule.kp TX.bd_is_schedule .nil pass0 (pa_cons (pv 0) pa_nil))))
        (pss_one ps_never)
        pss_nil)
      (pss_cons (ps_expr (pe_call (ok_check_budgetsN TX) (hr.mono (by decide)) (by rfl) TX.g_check_budgets TX.f_check_budgets.kp TX.bd_check_budgets .nil pass0 (pa_cons (pv 1) (pa_cons (pv 2) (pa_cons (pe_glob (v := .int (60)) (by rfl) TX.c_MOST_BUDGET ⟨_, rfl⟩) pa_nil)))))
      (pss_cons (ps_if (PW.pt (pw_or (pt_cmpR op_gt (pe_callBK (id := "max") (cr_maxDef (K := K) rfl rfl hr.units) (by rfl) TX.b_max (by decide +kernel) (pa_cons (pe_call (ok_run_countsN TX) (hr.mono (by decide)) (by rfl) TX.g_run_counts TX.f_run_counts.kp TX.bd_run_counts .nil pass0 (pa_cons (pv 0) pa_nil)) pa_nil) (pk_cons pe_int pk_nil)) (pv 1) (nomark _)) (pw_or1 (pt_cmpR op_gt (pe_callBK (id := "max") (cr_maxDef (K := K) rfl rfl hr.units) (by rfl) TX.b_max (by decide +kernel) (pa_cons (pe_call (ok_writesN TX) (hr.mono (by decide)) (by rfl) TX.g_writes TX.f_writes.kp TX.bd_writes .nil pass0 (pa_cons (pv 0) pa_nil)) pa_nil) (pk_cons pe_int pk_nil)) (pv 2) (nomark _)))))
        (pss_one ps_never)
        pss_nil)
      (pss_one (ps_ret (pe_call (ok_place_ofN TX) (hr.mono (by decide)) (by rfl) TX.g_place_of TX.f_place_of.kp TX.bd_place_of .nil pass0 (pa_cons (pv 0) (pa_cons (pv 1) (pa_cons (pv 2) (pa_cons (pe_call (ok_counts_withinN TX) (hr.mono (by decide)) (by rfl) TX.g_counts_within TX.f_counts_within.kp TX.bd_counts_within .nil pass0 (pa_cons (pe_callB (id := "len") (k_len (K := K) rfl) (by rfl) TX.b_len (by decide +kernel) (pa_cons (pv 0) pa_nil)) (pa_cons (pv 1) (pa_cons (pv 2) pa_nil)))) pa_nil)))))))))), ?_⟩
    obtain ⟨w1, w2⟩ := wi_rc hw
    refine ⟨.ref x, rfl, x, t, rfl, hS, hz, true, rfl, iteF ?_⟩
    refine ⟨_, rfl, _, rfl, _, _, _, rfl, by omega, by omega, by omega, by omega, fun H1 s1 => ?_⟩
    have hS1 := Same.tup s1 hS
    refine ⟨.ref x, rfl, x, t, rfl, hS1, hz, fun H2 p2 s2 h2 => ?_⟩
    dsimp only [tNil, tCons, tC]
    refine max_le h2 w1 ?_
    intro i hi
    refine ⟨_, rfl, _, _, rfl, rfl, _, rfl, decF (by omega) ?_⟩
    have hS2 := Same.tup s2 hS1
    refine ⟨.ref x, rfl, x, t, rfl, hS2, hz, fun H3 p3 s3 h3 => ?_⟩
    dsimp only [tNil, tCons, tC]
    refine max_le h3 w2 ?_
    intro j hj
    refine ⟨_, rfl, _, _, rfl, rfl, _, rfl, decF (by omega) ?_⟩
    have s03 := s1.trans (s2.trans s3)
    have hS3 := Same.tup s3 hS2
    refine ⟨.ref x, rfl, _, rfl, _, rfl, .ref x, rfl, x, _, rfl, .inr hS3, _, rfl, _, rfl, t.size, k, c, by rw [vi_len, T.sch_len]; rfl, hz, hk, hc, fun H4 d s4 hT => ?_⟩
    refine ⟨x, d, t, k, c, t.size, k, c, 4000, rfl, Same.tup s4 hS3, hT, hz, Nat.le_refl _, Nat.le_refl _, by omega, hw, by omega, fun H5 s5 => q _ ((s03.trans s4).trans s5)⟩
def sp_schedule_withinN (K : PySem.W.Frag) : Sp := fun vs H Q _ => ∃ (t : T) (k c : Nat), vs = [.int (t.size : Int), .int (k : Int), .int (c : Int), .int (plc t k c : Int)] ∧ t.size ≤ 60 ∧ k ≤ 60 ∧ c ≤ 60 ∧ Wi t k c ∧ ∀ H' p, Same H H' → SqT K H' p (vi t.sch) → Q (.ref p) H'
theorem ok_schedule_withinN (TX : Tx K mg) : FnOk P w K mg base CX0 63 TX.a_schedule_within TX.fd_schedule_within ["n", "k", "c", "index"] (sp_schedule_withinN K) := by
  refine TX.f_schedule_within.ok sc_schedule_within (fun vs H Q E h => ?_) (fun cdv A outer s H vs Q E hr h => ?_)
  · obtain ⟨t, k, c, rfl, _⟩ := h; rfl
  · obtain ⟨t, k, c, rfl, hz, hk, hc, hw, q⟩ := h
    refine ⟨_, (pss_cons (ps_expr (pe_call (ok_check_flushesN TX) (hr.mono (by decide)) (by rfl) TX.g_check_flushes TX.f_check_flushes.kp TX.bd_check_flushes .nil pass0 (pa_cons (pv 0) pa_nil)))
      (pss_cons (ps_expr (pe_call (ok_check_budgetsN TX) (hr.mono (by decide)) (by rfl) TX.g_check_budgets TX.f_check_budgets.kp TX.bd_check_budgets .nil pass0 (pa_cons (pv 1) (pa_cons (pv 2) (pa_cons (pe_glob (v := .int (60)) (by rfl) TX.c_MOST_BUDGET ⟨_, rfl⟩) pa_nil)))))
      (pss_cons (ps_set (i := 4) sc_schedule_within.nd rfl (.inl rfl) (pe_call (ok_counts_withinN TX) (hr.mono (by decide)) (by rfl) TX.g_counts_within TX.f_counts_within.kp TX.bd_counts_within .nil pass0 (pa_cons (pv 0) (pa_cons (pv 1) (pa_cons (pv 2) pa_nil)))))
      (pss_cons (ps_if (pt_not (pt_val (pe_call (ok_is_count_up_toN TX) (hr.mono (by decide)) (by rfl) TX.g_is_count_up_to TX.f_is_count_up_to.kp TX.bd_is_count_up_to .nil pass0 (pa_cons (pv 3) (pa_cons (pe_op op_sub (pe_ix (k_ixL (K := K) rfl) (pe_nget (K := K) (P := P) (w := w) rfl rfl rfl (hu_of hr) (pv 4) (pe_tup (pa_cons (pv 1) (pa_cons (pv 2) pa_nil))) (fun _ _ => rfl)) (pv 0) (fun _ _ => rfl)) pe_int) pa_nil)))))
        (pss_one ps_never)
        pss_nil)
      (pss_one (ps_ret (pe_callK (ok_schedule_in_placeN TX) (hr.mono (by decide)) (by rfl) TX.g_schedule_in_place TX.f_schedule_in_place.kp TX.kc_schedule_in_place_b_a_place_counts pass0 (pa_cons (pv 0) pa_nil) (pk_cons (pv 1) (pk_cons (pv 2) (pk_cons (pv 3) (pk_cons (pv 4) pk_nil))))))))))), ?_⟩
    have hT0 : cwT t.size k c k c = some (cwL k c t.size) := by
      unfold cwT
      rw [if_pos (by omega)]
      congr 2; omega
    have hlt := plc_lt hw
    refine ⟨_, rfl, t.size, rfl, hz, _, rfl, _, rfl, _, _, _, rfl, by omega, by omega, by omega, by omega, fun H1 s1 => ?_⟩
    refine ⟨_, rfl, _, rfl, _, rfl, t.size, k, c, rfl, hz, hk, hc, fun H2 d s2 hT => ?_⟩
    refine ⟨_, rfl, .ref d, rfl, _, rfl, _, rfl, sz60 (by simp), fun t1 n1 => ?_⟩
    have z1 := same_upd (o := .tup [V.int (k : Int), V.int (c : Int)]) n1
    obtain ⟨kvs1, d1, g1, g2, g3⟩ := (hT.same z1).at hT0
    refine ⟨d, t1, kvs1, [(k : Int), (c : Int)], .ref d1, rfl, rfl, g1, .inl (.inl upd_same), g2, _, rfl, ?_⟩
    refine ⟨d1, _, _, _, rfl, rfl, .inl (.inl g3), at_vi (cwL_get (Nat.le_refl t.size)), _, _, rfl, rfl, ?_⟩
    refine ⟨_, _, rfl, true, by rw [decide_eq_true (by omega), decide_eq_true (by omega)]; rfl, iteF ?_⟩
    refine ⟨_, rfl, _, rfl, _, rfl, _, rfl, _, rfl, d, t, k, c, t.size, k, c, 4000, rfl, hT.same z1, hz, Nat.le_refl _, Nat.le_refl _, by omega, hw, by omega, fun H5 p s5 hp => q _ _ ((s1.trans s2).trans (z1.trans s5)) hp⟩
end
/-! ### how many trees are within budgets -/
def lf : Nat → Nat → Nat
  | 0, _ => 0
  | _ + 1, 0 => 0
  | b + 1, a + 1 => lf (b + 1) a + lf b (a + 1) + 1
theorem lf_s (b a : Nat) : lf (b + 1) (a + 1) = lf (b + 1) a + lf b (a + 1) + 1 := by rw [lf]
theorem lf_r0 : ∀ b, lf b 0 = 0
  | 0 => by rw [lf]
  | _ + 1 => by rw [lf]
theorem lf_l0 (a : Nat) : lf 0 a = 0 := by rw [lf]
theorem sum_zero {f : Nat → Nat} : ∀ n, (∀ i, i < n → f i = 0) → ((List.range n).map f).sum = 0
  | 0, _ => rfl
  | n + 1, h => by
    rw [List.range_succ, List.map_append, List.sum_append, sum_zero n fun i hi => h i (by omega)]
    simp [h n (by omega)]
theorem sum_one {f : Nat → Nat} {c : Nat} : ∀ n, c < n → (∀ i, i < n → i ≠ c → f i = 0) → ((List.range n).map f).sum = f c
  | 0, h, _ => by omega
  | n + 1, hc, h => by
    rw [List.range_succ, List.map_append, List.sum_append]
    by_cases e : c = n
    · rw [sum_zero n fun i hi => h i (by omega) (by omega), e]; simp
    · rw [sum_one n (by omega) fun i hi hne => h i (by omega) hne]
      simp [h n (by omega) (by omega)]
theorem sum_ge {f : Nat → Nat} {c : Nat} : ∀ n, c < n → f c ≤ ((List.range n).map f).sum
  | 0, h => by omega
  | n + 1, hc => by
    rw [List.range_succ, List.map_append, List.sum_append]
    by_cases e : c = n
    · rw [e]; simp
    · have := sum_ge (f := f) n (show c < n by omega); omega
theorem nB_life : ∀ b a, (∀ s, lf b a < s → nB b a s = 0) ∧ nB b a (lf b a) = 1 ∧ ∀ s, s ≤ lf b a → 0 < nB b a s := fun b => by
  induction b with
  | zero =>
    intro a
    rw [lf_l0]
    refine ⟨fun s hs => by rw [nB_l0, if_neg (by omega)], nB_z _ _, fun s hs => ?_⟩
    rw [show s = 0 by omega, nB_z]; exact Nat.one_pos
  | succ b ihb =>
    intro a
    induction a with
    | zero =>
      rw [lf_r0]
      refine ⟨fun s hs => by rw [nB_r0, if_neg (by omega)], nB_z _ _, fun s hs => ?_⟩
      rw [show s = 0 by omega, nB_z]; exact Nat.one_pos
    | succ a iha =>
      obtain ⟨l1, l2, l3⟩ := iha
      obtain ⟨r1, r2, r3⟩ := ihb (a + 1)
      rw [lf_s]
      refine ⟨fun s hs => ?_, ?_, fun s hs => ?_⟩
      · obtain ⟨s, rfl⟩ : ∃ s', s = s' + 1 := ⟨s - 1, by omega⟩
        rw [nB_s]
        refine sum_zero _ fun i hi => ?_
        by_cases h : lf (b + 1) a < i
        · rw [l1 i h, Nat.zero_mul]
        · rw [r1 (s - i) (by omega), Nat.mul_zero]
      · rw [nB_s, sum_one (c := lf (b + 1) a) _ (by omega) fun i hi hne => ?_]
        · rw [l2, show lf (b + 1) a + lf b (a + 1) - lf (b + 1) a = lf b (a + 1) by omega, r2]
        · by_cases h : lf (b + 1) a < i
          · rw [l1 i h, Nat.zero_mul]
          · rw [r1 _ (by omega), Nat.mul_zero]
      · cases s with
        | zero => rw [nB_z]; exact Nat.one_pos
        | succ s =>
          rw [nB_s]
          have h1 := l3 (min s (lf (b + 1) a)) (Nat.min_le_right _ _)
          have h2 := r3 (s - min s (lf (b + 1) a)) (by omega)
          exact Nat.lt_of_lt_of_le (Nat.mul_pos h1 h2) (sum_ge (f := fun i => nB (b + 1) a i * nB b (a + 1) (s - i)) (c := min s (lf (b + 1) a)) (s + 1) (by omega))
theorem sum_rev {f : Nat → Nat} : ∀ n, ((List.range n).map f).sum = ((List.range n).map fun i => f (n - 1 - i)).sum := fun n => by
  have e : (List.range n).map (fun i => f (n - 1 - i)) = ((List.range n).map f).reverse := by
    refine List.ext_getElem? fun i => ?_
    by_cases h : i < n
    · rw [List.getElem?_map, List.getElem?_range h, List.getElem?_reverse (by simp; exact h), List.getElem?_map, List.length_map, List.length_range, List.getElem?_range (by omega)]; rfl
    · rw [List.getElem?_eq_none (by simp; omega), List.getElem?_eq_none (by simp; omega)]
  rw [e, List.sum_reverse]
theorem nB_sym : ∀ (n s b a : Nat), s ≤ n → nB b a s = nB a b s
  | _, 0, b, a, _ => by rw [nB_z, nB_z]
  | 0, s + 1, _, _, h => by omega
  | n + 1, s + 1, 0, a, _ => by rw [nB_l0, nB_r0]
  | n + 1, s + 1, b + 1, 0, _ => by rw [nB_l0, nB_r0]
  | n + 1, s + 1, b + 1, a + 1, h => by
    rw [nB_s, nB_s, sum_rev]
    congr 1
    refine List.map_congr_left fun i hi => ?_
    have hi := List.mem_range.mp hi
    rw [Nat.mul_comm, nB_sym n (s + 1 - 1 - i) (b + 1) a (by omega), nB_sym n (s - (s + 1 - 1 - i)) b (a + 1) (by omega)]
    rw [show s - (s + 1 - 1 - i) = i by omega, show s + 1 - 1 - i = s - i by omega]
theorem nB_satb : ∀ (n s b a : Nat), s ≤ n → s ≤ b → nB (b + 1) a s = nB b a s
  | _, 0, b, a, _, _ => by rw [nB_z, nB_z]
  | 0, s + 1, _, _, h, _ => by omega
  | n + 1, s + 1, 0, a, _, h => by omega
  | n + 1, s + 1, b + 1, 0, _, _ => by rw [nB_r0, nB_r0]
  | n + 1, s + 1, b + 1, a + 1, h, h2 => by
    rw [nB_s, nB_s]
    congr 1
    refine List.map_congr_left fun i hi => ?_
    have hi := List.mem_range.mp hi
    rw [nB_satb n i (b + 1) a (by omega) (by omega), nB_satb n (s - i) b (a + 1) (by omega) (by omega)]
theorem nB_sat1 {s b a : Nat} : ∀ d, b = s + d → nB b a s = nB s a s
  | 0, h => by rw [h]; rfl
  | d + 1, h => by
    rw [h, show s + (d + 1) = (s + d) + 1 by omega, nB_satb s s (s + d) a (Nat.le_refl _) (by omega)]
    exact nB_sat1 d rfl
theorem nB_minb (b a s : Nat) : nB b a s = nB (min b s) a s := by
  by_cases h : b ≤ s
  · rw [Nat.min_eq_left h]
  · rw [Nat.min_eq_right (by omega)]; exact nB_sat1 (b - s) (by omega)
theorem nB_min (b a s : Nat) : nB b a s = nB (min b s) (min a s) s := by
  rw [nB_minb, nB_sym s s _ _ (Nat.le_refl _), nB_minb, nB_sym s s _ _ (Nat.le_refl _)]
/-! ### each place has its tree -/
theorem pfs_find {b a s p : Nat} : ∀ n, p < pfs b a s n → ∃ o, o < n ∧ pfs b a s o ≤ p ∧ p < pfs b a s (o + 1)
  | 0, h => by simp [pfs] at h
  | n + 1, h => by
    by_cases h1 : p < pfs b a s n
    · obtain ⟨o, h2, h3⟩ := pfs_find n h1
      exact ⟨o, by omega, h3⟩
    · exact ⟨n, by omega, by omega, h⟩
theorem un_ex : ∀ (m n b a p : Nat), n ≤ m → p < nB b a n → ∃ t : T, t.size = n ∧ Wi t b a ∧ plc t b a = p
  | _, 0, b, a, p, _, h => ⟨.nil, rfl, trivial, by rw [nB_z] at h; show 0 = p; omega⟩
  | 0, n + 1, _, _, _, h, _ => by omega
  | m + 1, s + 1, b, a, p, hm, h => by
    have hb : 1 ≤ b := by
      rcases Nat.eq_zero_or_pos b with e | e
      · rw [e, nB_l0, if_neg (by omega)] at h; omega
      · exact e
    have ha : 1 ≤ a := by
      rcases Nat.eq_zero_or_pos a with e | e
      · rw [e, nB_r0, if_neg (by omega)] at h; omega
      · exact e
    rw [nB_pfs hb ha] at h
    obtain ⟨o, h1, h2, h3⟩ := pfs_find _ h
    rw [pfs_succ] at h3
    have hR : 0 < nB (b - 1) a (s - o) := by
      rcases Nat.eq_zero_or_pos (nB (b - 1) a (s - o)) with e | e
      · rw [e, Nat.mul_zero] at h3; omega
      · exact e
    obtain ⟨l, l1, l2, l3⟩ := un_ex m o b (a - 1) ((p - pfs b a s o) / nB (b - 1) a (s - o)) (by omega) (Nat.div_lt_of_lt_mul (by rw [Nat.mul_comm]; omega))
    obtain ⟨r, r1, r2, r3⟩ := un_ex m (s - o) (b - 1) a ((p - pfs b a s o) % nB (b - 1) a (s - o)) (by omega) (Nat.mod_lt _ hR)
    refine ⟨.node l r, by show l.size + 1 + r.size = _; omega, ⟨hb, ha, l2, r2⟩, ?_⟩
    show pfs b a (l.size + r.size) l.size + plc l b (a - 1) * nB (b - 1) a r.size + plc r (b - 1) a = p
    rw [l3, r3, l1, r1, show o + (s - o) = s by omega]
    have := Nat.div_add_mod (p - pfs b a s o) (nB (b - 1) a (s - o))
    rw [Nat.mul_comm] at this
    omega
theorem plc_cmp {l r l' r' : T} {b a : Nat} (hw : Wi (.node l r) b a) (hs : (T.node l r).size = (T.node l' r').size) (h : l.size < l'.size) : plc (.node l r) b a < plc (.node l' r') b a := by
  have h1 := (plc_rest hw).2.2
  have e1 : (T.node l r).size = l.size + 1 + r.size := rfl
  have e2 : (T.node l' r').size = l'.size + 1 + r'.size := rfl
  have h2 := pfs_le (b := b) (a := a) (s := l.size + r.size) (i := l.size + 1) (n := l'.size) (by omega)
  rw [pfs_succ, show l.size + r.size - l.size = r.size by omega] at h2
  show pfs b a (l.size + r.size) l.size + plc l b (a - 1) * nB (b - 1) a r.size + plc r (b - 1) a < pfs b a (l'.size + r'.size) l'.size + plc l' b (a - 1) * nB (b - 1) a r'.size + plc r' (b - 1) a
  rw [show l'.size + r'.size = l.size + r.size by omega]
  omega
theorem plc_same {l r l' r' : T} {b a : Nat} (hs : (T.node l r).size = (T.node l' r').size) (h : l.size = l'.size) : r.size = r'.size ∧ ∃ R, R = nB (b - 1) a r.size ∧ (plc (.node l r) b a < plc (.node l' r') b a ↔ plc l b (a - 1) * R + plc r (b - 1) a < plc l' b (a - 1) * R + plc r' (b - 1) a) ∧ (plc (.node l r) b a = plc (.node l' r') b a ↔ plc l b (a - 1) * R + plc r (b - 1) a = plc l' b (a - 1) * R + plc r' (b - 1) a) := by
  have e1 : (T.node l r).size = l.size + 1 + r.size := rfl
  have e2 : (T.node l' r').size = l'.size + 1 + r'.size := rfl
  have hr : r.size = r'.size := by omega
  refine ⟨hr, _, rfl, ?_⟩
  have d1 : plc (.node l r) b a = pfs b a (l.size + r.size) l.size + plc l b (a - 1) * nB (b - 1) a r.size + plc r (b - 1) a := rfl
  have d2 : plc (.node l' r') b a = pfs b a (l'.size + r'.size) l'.size + plc l' b (a - 1) * nB (b - 1) a r'.size + plc r' (b - 1) a := rfl
  rw [d1, d2, ← h, ← hr]
  constructor <;> constructor <;> intro z <;> omega
theorem plc_inj : ∀ {t t' : T} {b a : Nat}, t.size = t'.size → Wi t b a → Wi t' b a → plc t b a = plc t' b a → t = t'
  | .nil, .nil, _, _, _, _, _, _ => rfl
  | .nil, .node l r, _, _, h, _, _, _ => by have : (T.node l r).size = l.size + 1 + r.size := rfl; have h0 : (T.nil).size = 0 := rfl; omega
  | .node l r, .nil, _, _, h, _, _, _ => by have : (T.node l r).size = l.size + 1 + r.size := rfl; have h0 : (T.nil).size = 0 := rfl; omega
  | .node l r, .node l' r', b, a, hs, hw, hw', h => by
    rcases Nat.lt_trichotomy l.size l'.size with c | c | c
    · have := plc_cmp hw hs c; omega
    · obtain ⟨hr, R, eR, _, h2⟩ := plc_same (b := b) (a := a) hs c
      have h3 := h2.mp h
      obtain ⟨d1, m1, _⟩ := plc_rest hw
      obtain ⟨d2, m2, _⟩ := plc_rest hw'
      rw [← eR] at d1 m1
      rw [← hr, ← eR] at d2 m2
      rw [h3, d2] at d1
      rw [h3, m2] at m1
      rw [plc_inj c hw.2.2.1 hw'.2.2.1 d1.symm, plc_inj hr hw.2.2.2 hw'.2.2.2 m1.symm]
    · have := plc_cmp hw' hs.symm c; omega
def dKey : T → PyData
  | .nil => .tuple []
  | .node l r => .tuple [.int (l.size : Int), dKey l, dKey r]
theorem alikeK : ∀ t t' : T, PySem.W.alike (dKey t) (dKey t') = true
  | .nil, .nil => by simp [dKey, PySem.W.alike, PySem.W.alikeAll]
  | .nil, .node l r => by simp [dKey, PySem.W.alike, PySem.W.alikeAll]
  | .node l r, .nil => by simp [dKey, PySem.W.alike, PySem.W.alikeAll]
  | .node l r, .node l' r' => by simp [dKey, PySem.W.alike, PySem.W.alikeAll, alikeK l l', alikeK r r']
theorem eqv_of_lt {d e : PyData} (h : PySem.W.alike d e = true) (hl : PySem.W.dataLt d e = true) : PyData.eqv d e = false := by
  cases hc : PyData.eqv d e with
  | false => rfl
  | true =>
    have h1 := (PySem.W.toks_eqv d e h).1 hc
    unfold PySem.W.dataLt at hl
    rw [h1] at hl
    have := PySem.W.lex_pre (PySem.W.keyToks e) [] []
    rw [List.append_nil] at this
    rw [this] at hl
    exact absurd hl (by decide)
theorem alikeI (i j : Int) : PySem.W.alike (.int i) (.int j) = true := by simp [PySem.W.alike]
theorem eqvI (i : Int) : PyData.eqv (.int i) (.int i) = true := by simp [PyData.eqv]
theorem key_lt : ∀ {t t' : T} {b a : Nat}, t.size = t'.size → Wi t b a → Wi t' b a → plc t b a < plc t' b a → PySem.W.dataLt (dKey t) (dKey t') = true
  | .nil, .nil, _, _, _, _, _, h => by exact absurd h (Nat.lt_irrefl _)
  | .nil, .node l r, _, _, h, _, _, _ => by have : (T.node l r).size = l.size + 1 + r.size := rfl; have h0 : (T.nil).size = 0 := rfl; omega
  | .node l r, .nil, _, _, h, _, _, _ => by have : (T.node l r).size = l.size + 1 + r.size := rfl; have h0 : (T.nil).size = 0 := rfl; omega
  | .node l r, .node l' r', b, a, hs, hw, hw', h => by
    show PySem.W.dataLt (.tuple [.int (l.size : Int), dKey l, dKey r]) (.tuple [.int (l'.size : Int), dKey l', dKey r']) = true
    rw [PySem.W.dataLt_tuple]
    rcases Nat.lt_trichotomy l.size l'.size with c | c | c
    · have hlt : PySem.W.dataLt (.int (l.size : Int)) (.int (l'.size : Int)) = true := by rw [PySem.W.dataLt_int]; exact decide_eq_true (by omega)
      rw [PySem.W.dataLt_all_no (alikeI _ _) (eqv_of_lt (alikeI _ _) hlt)]
      exact hlt
    · rw [PySem.W.dataLt_all_yes (alikeI _ _) (by rw [c]; exact eqvI _)]
      obtain ⟨hr, R, eR, h2, _⟩ := plc_same (b := b) (a := a) hs c
      have h3 := h2.mp h
      obtain ⟨d1, m1, _⟩ := plc_rest hw
      obtain ⟨d2, m2, _⟩ := plc_rest hw'
      rw [← eR] at d1 m1
      rw [← hr, ← eR] at d2 m2
      have hRp : 0 < R := by
        have := plc_lt hw.2.2.2
        rw [eR]; omega
      have hle : plc l b (a - 1) ≤ plc l' b (a - 1) := by
        rw [← d1, ← d2]
        exact Nat.div_le_div_right (Nat.le_of_lt h3)
      rcases Nat.lt_or_eq_of_le hle with g | g
      · have hlt := key_lt c hw.2.2.1 hw'.2.2.1 g
        rw [PySem.W.dataLt_all_no (alikeK _ _) (eqv_of_lt (alikeK _ _) hlt)]
        exact hlt
      · have e := plc_inj c hw.2.2.1 hw'.2.2.1 g
        subst e
        rw [PySem.W.dataLt_all_yes (alikeK _ _) (PySem.W.eqv_refl_alike _ (alikeK _ _))]
        have hlt := key_lt hr hw.2.2.2 hw'.2.2.2 (by omega)
        rw [PySem.W.dataLt_all_no (alikeK _ _) (eqv_of_lt (alikeK _ _) hlt)]
        exact hlt
    · have := plc_cmp hw' hs.symm c; omega
theorem key_dep : ∀ t : T, (dKey t).depth ≤ t.size + 1
  | .nil => by simp [dKey, PyData.depth, PyData.depthAll]
  | .node l r => by
    have h1 := key_dep l
    have h2 := key_dep r
    have e : (T.node l r).size = l.size + 1 + r.size := rfl
    simp only [dKey, PyData.depth]
    simp only [PyData.depthAll, PyData.depth]
    omega
/-- the draws' list: a number not below 0, a seed, a count of at most n -/
def Pot (H : Hp) (a : Addr) (n : Int) : Prop := ∃ d s m : Int, H a = some (.lst [.int d, .int s, .int m]) ∧ 0 ≤ d ∧ 0 ≤ s ∧ s < 2 ^ 61 ∧ 0 ≤ m ∧ m ≤ n
theorem Pot.mono {H : Hp} {a : Addr} {n k : Int} (h : Pot H a n) (e : n ≤ k) : Pot H a k := by
  obtain ⟨d, s, m, h1, h2, h3, h4, h5, h6⟩ := h
  exact ⟨d, s, m, h1, h2, h3, h4, h5, by omega⟩
theorem Pot.same {H H' : Hp} {a : Addr} {n : Int} (h : Pot H a n) (e : Same H H') : Pot H' a n := by
  obtain ⟨d, s, m, h1, r⟩ := h
  exact ⟨d, s, m, e _ _ h1, r⟩
theorem Pot.keep {K : PySem.W.Frag} {H H' : Hp} {a : Addr} {n : Int} (h : Pot H a n) (e : But a H H') : Keep K H H' := by
  obtain ⟨d, s, m, h1, r⟩ := h
  exact But.keep e h1
theorem Pot.ne {H : Hp} {a b : Addr} {n : Int} (h : Pot H a n) (e : H b = none) : b ≠ a := fun z => by
  obtain ⟨d, s, m, h1, r⟩ := h
  rw [z, h1] at e; cases e
theorem But.free {a l : Addr} {H H' : Hp} (b : But a H H') (h : H' l = none) (n : l ≠ a) : H l = none := by
  cases e : H l with
  | none => rfl
  | some o => rw [b _ _ n e] at h; cases h
theorem But.mut {a l : Addr} {H H' : Hp} {o : HO} (b : But a H H') (h : H l = none) : But a H (L2.upd H' l o) := fun c u n e => by
  rw [upd_ne (ne_of_none e h)]; exact b _ _ n e
theorem Pot.upd {H : Hp} {a l : Addr} {n : Int} {o : HO} (h : Pot H a n) (e : l ≠ a) : Pot (L2.upd H l o) a n := by
  obtain ⟨d, s, m, h1, r⟩ := h
  exact ⟨d, s, m, by rw [upd_ne e.symm]; exact h1, r⟩
theorem na_lt {x : Int} {n : Nat} (h0 : 0 ≤ x) (h1 : x < ((2 ^ n : Nat) : Int)) : x.natAbs < 2 ^ n := by omega
theorem bit01 (b : Bool) : (if b = true then (1 : Int) else 0).natAbs < 2 ^ 2 ∧ (0 : Int) ≤ (if b = true then (1 : Int) else 0) := by cases b <;> exact ⟨by decide, by decide⟩
set_option exponentiation.threshold 2000
section
variable {P : Program} {w : World} {K : PySem.W.Frag} {mg : Str → Option Value} {base : Heap}
def sp_L_pot (K : PySem.W.Frag) : Sp := fun vs H Q _ => ∃ (a : Addr) (ns : List Int) (pl : Nat), vs = [.ref a, .int (pl : Int)] ∧ SqL K H a (ns.map V.int) ∧ pl ≤ 62 ∧ ∀ H' p, Same H H' → H p = none → Pot H' p 0 → Q (.ref p) H'
theorem ok_L_pot (TX : Tx K mg) : FnOk P w K mg base CX0 1 TX.a_L_pot TX.fd_L_pot ["_law_script", "_law_place"] (sp_L_pot K) := by
  refine TX.f_L_pot.ok sc_L_pot (fun vs H Q E h => ?_) (fun cdv A outer s H vs Q E hr h => ?_)
  · obtain ⟨a, ns, pl, rfl, _⟩ := h; rfl
  · obtain ⟨a, ns, pl, rfl, hS, hpl, q⟩ := h
    refine ⟨_, (pss_cons (ps_set (i := 2) sc_L_pot.nd rfl (.inl rfl) (pe_ifExp (pt_cmpR op_lt (pv 1) (pe_callB (id := "len") (k_len (K := K) rfl) (by rfl) TX.b_len (by decide +kernel) (pa_cons (pv 0) pa_nil)) (nomark _)) (pe_ix (k_ixL (K := K) rfl) (pv 0) (pv 1) (fun _ _ => rfl)) pe_int))
      (pss_cons (ps_set (i := 3) sc_L_pot.nd rfl (.inl rfl) (pe_op op_mulW (pe_op op_mod (pe_callB (id := "abs") call_abs (by rfl) TX.b_abs (by decide +kernel) (pa_cons (pv 2) pa_nil)) (pe_op op_powW (pe_op op_powW pe_int pe_int) pe_int)) (pe_callTy (T := "int") call_int1 (by rfl) TX.b_int (by decide +kernel) (pa_cons (pe_cmpR op_ge (pe_callB (id := "abs") call_abs (by rfl) TX.b_abs (by decide +kernel) (pa_cons (pv 2) pa_nil)) (pe_op op_powW pe_int pe_int) (nomark _)) pa_nil))))
      (pss_one (ps_ret (pe_lst (pa_cons (pv 3) (pa_cons (pe_op op_mod (pe_op op_mulW (pe_op op_add (pe_op op_add (pe_op op_mod (pv 2) pe_int) (pe_op op_mulW (pe_op op_mulW pe_int (pv 1)) (pv 1))) pe_int) pe_int) pe_int) (pa_cons pe_int pa_nil)))))))), ?_⟩
    refine ⟨_, rfl, .ref a, rfl, a, _, rfl, .inl hS, _, _, rfl, rfl, _, rfl, ?_⟩
    have P0 : (0 : Int) < (10 ^ (60 : Int).toNat) ^ (5 : Int).toNat := by decide +kernel
    have P1 : ((10 ^ (60 : Int).toNat) ^ (5 : Int).toNat : Int) < ((2 ^ 1000 : Nat) : Int) := by decide +kernel
    have nl1 : ∀ pl : Nat, pl ≤ 62 → (0 : Int) ≤ 1299709 * (pl : Int) * (pl : Int) ∧ 1299709 * (pl : Int) * (pl : Int) ≤ 1299709 * 3844 := fun pl h => by
      have h1 : (pl : Int) * (pl : Int) ≤ 62 * 62 := Int.mul_le_mul (by omega) (by omega) (by omega) (by omega)
      have h2 : (0 : Int) ≤ (pl : Int) * (pl : Int) := Int.mul_nonneg (by omega) (by omega)
      rw [Int.mul_assoc]; omega
    refine ite2 (fun h => ?_) (fun h => ?_)
    · have hlt : pl < ns.length := by
        have := of_decide_eq_true h
        rw [List.length_map] at this
        omega
      refine ⟨.ref a, rfl, _, rfl, a, _, _, .int ns[pl], rfl, rfl, hS, atI_nat (by rw [List.getElem?_map, List.getElem?_eq_getElem hlt]; rfl), ?_⟩
      have c0 := Int.emod_nonneg (ns[pl]) (show (2305843009213693951 : Int) ≠ 0 by decide)
      have c1 := Int.emod_lt_of_pos (ns[pl]) (show (0 : Int) < 2305843009213693951 by decide)
      refine ⟨_, rfl, _, rfl, _, _, rfl, rfl, ⟨by decide, by decide +kernel⟩, _, _, rfl, rfl, ⟨by decide, by decide +kernel⟩, _, _, rfl, rfl, P0, _, rfl, _, rfl, _, _, rfl, rfl, ⟨by decide, by decide +kernel⟩, _, _, rfl, rfl, .inr ⟨_, rfl, _, _, rfl, rfl, ?_, ?_⟩⟩
      · exact wide_mul (a := 1000) (b := 2) (na_lt (Int.emod_nonneg _ (Int.ne_of_gt P0)) (Int.lt_trans (Int.emod_lt_of_pos _ P0) P1)) (bit01 _).1 (by decide) (by decide) (by decide)
      · refine ⟨_, rfl, _, rfl, _, _, rfl, rfl, (show (0 : Int) < 2305843009213693951 by decide), _, rfl, _, _, rfl, rfl, wide_mul (a := 21) (b := 7) (by decide) (by omega) (by decide) (by decide) (by decide), _, rfl, _, _, rfl, rfl, wide_mul (a := 28) (b := 7) (by omega) (by omega) (by decide) (by decide) (by decide), _, _, rfl, rfl, _, _, rfl, rfl, _, _, rfl, rfl, ?_, _, _, rfl, rfl, (show (0 : Int) < 2305843009213693921 by decide), sz60 (by simp), fun p np => q _ p (same_upd np) np ?_⟩
        · refine wide_mul (a := 62) (b := 16) (na_lt ?_ ?_) (by decide) (by decide) (by decide) (by decide)
          · have := nl1 pl hpl; omega
          · have := nl1 pl hpl; omega
        · refine ⟨_, _, _, upd_same, ?_, Int.emod_nonneg _ (by decide), Int.lt_trans (Int.emod_lt_of_pos _ (by decide)) (by decide), by decide, by decide⟩
          refine Int.mul_nonneg (Int.emod_nonneg _ (Int.ne_of_gt P0)) ?_
          exact (bit01 _).2
    · show tSeq _ _ _ _ _
      have c0 := Int.emod_nonneg (0) (show (2305843009213693951 : Int) ≠ 0 by decide)
      have c1 := Int.emod_lt_of_pos (0) (show (0 : Int) < 2305843009213693951 by decide)
      refine ⟨_, rfl, _, rfl, _, _, rfl, rfl, ⟨by decide, by decide +kernel⟩, _, _, rfl, rfl, ⟨by decide, by decide +kernel⟩, _, _, rfl, rfl, P0, _, rfl, _, rfl, _, _, rfl, rfl, ⟨by decide, by decide +kernel⟩, _, _, rfl, rfl, .inr ⟨_, rfl, _, _, rfl, rfl, ?_, ?_⟩⟩
      · exact wide_mul (a := 1000) (b := 2) (na_lt (Int.emod_nonneg _ (Int.ne_of_gt P0)) (Int.lt_trans (Int.emod_lt_of_pos _ P0) P1)) (bit01 _).1 (by decide) (by decide) (by decide)
      · refine ⟨_, rfl, _, rfl, _, _, rfl, rfl, (show (0 : Int) < 2305843009213693951 by decide), _, rfl, _, _, rfl, rfl, wide_mul (a := 21) (b := 7) (by decide) (by omega) (by decide) (by decide) (by decide), _, rfl, _, _, rfl, rfl, wide_mul (a := 28) (b := 7) (by omega) (by omega) (by decide) (by decide) (by decide), _, _, rfl, rfl, _, _, rfl, rfl, _, _, rfl, rfl, ?_, _, _, rfl, rfl, (show (0 : Int) < 2305843009213693921 by decide), sz60 (by simp), fun p np => q _ p (same_upd np) np ?_⟩
        · refine wide_mul (a := 62) (b := 16) (na_lt ?_ ?_) (by decide) (by decide) (by decide) (by decide)
          · have := nl1 pl hpl; omega
          · have := nl1 pl hpl; omega
        · refine ⟨_, _, _, upd_same, ?_, Int.emod_nonneg _ (by decide), Int.lt_trans (Int.emod_lt_of_pos _ (by decide)) (by decide), by decide, by decide⟩
          refine Int.mul_nonneg (Int.emod_nonneg _ (Int.ne_of_gt P0)) ?_
          exact (bit01 _).2
def sp_L_take (K : PySem.W.Frag) : Sp := fun vs H Q _ => ∃ (a : Addr) (z n : Int), vs = [.ref a, .int z] ∧ Pot H a n ∧ n ≤ 100000 ∧ 1 ≤ z ∧ z.natAbs < 2 ^ 4000 ∧ ∀ H' r, But a H H' → Pot H' a (n + 1) → 0 ≤ r → r < z → Q (.int r) H'
theorem prime_at {m : Int} (h0 : 0 ≤ m) : ∃ v : Int, atI [V.int 2305843009213693951, V.int 2305843009213693921, V.int 2305843009213693907, V.int 67280421310721] (m % 4) = some (.int v) ∧ 0 < v ∧ v < 2 ^ 61 := by
  have h : m % 4 = 0 ∨ m % 4 = 1 ∨ m % 4 = 2 ∨ m % 4 = 3 := by omega
  rcases h with h | h | h | h <;> rw [h]
  · exact ⟨2305843009213693951, rfl, by decide, by decide⟩
  · exact ⟨2305843009213693921, rfl, by decide, by decide⟩
  · exact ⟨2305843009213693907, rfl, by decide, by decide⟩
  · exact ⟨67280421310721, rfl, by decide, by decide⟩
theorem ok_L_take (TX : Tx K mg) : FnOk P w K mg base CX0 1 TX.a_L_take TX.fd_L_take ["_law_pot", "_law_size"] (sp_L_take K) := by
  refine TX.f_L_take.ok sc_L_take (fun vs H Q E h => ?_) (fun cdv A outer s H vs Q E hr h => ?_)
  · obtain ⟨a, z, n, rfl, _⟩ := h; rfl
  · obtain ⟨a, z, n, rfl, ⟨d, sd, m, hp, hd, hs0, hs1, hm0, hm1⟩, hn, hz1, hz2, q⟩ := h
    refine ⟨_, (pss_cons (ps_if (pt_cmpR op_gt (pe_ix (k_ixL (K := K) rfl) (pv 0) pe_int (fun _ _ => rfl)) pe_int (nomark _))
        (pss_cons (ps_set (i := 2) sc_L_take.nd rfl (.inl rfl) (pe_op op_mod (pe_ix (k_ixL (K := K) rfl) (pv 0) pe_int (fun _ _ => rfl)) (pv 1)))
        (pss_cons (ps_asg (pe_op op_fdivW (pe_ix (k_ixL (K := K) rfl) (pv 0) pe_int (fun _ _ => rfl)) (pv 1)) (pg_sub (pv 0) pe_int set_list))
        (pss_one (ps_ret (pv 2)))))
        pss_nil)
      (pss_cons (ps_set (i := 3) sc_L_take.nd rfl (.inl rfl) (pe_op op_add (pe_ix (k_ixL (K := K) rfl) (pv 0) pe_int (fun _ _ => rfl)) pe_int))
      (pss_cons (ps_asg (pv 3) (pg_sub (pv 0) pe_int set_list))
      (pss_cons (ps_set (i := 4) sc_L_take.nd rfl (.inl rfl) (pe_ix (k_ixL (K := K) rfl) (pe_lst (pa_cons pe_int (pa_cons pe_int (pa_cons pe_int (pa_cons pe_int pa_nil))))) (pe_op op_mod (pv 3) pe_int) (fun _ _ => rfl)))
      (pss_cons (ps_set (i := 5) sc_L_take.nd rfl (.inl rfl) (pe_op op_mod (pe_op op_pow (pe_op op_add (pe_op op_add (pe_ix (k_ixL (K := K) rfl) (pv 0) pe_int (fun _ _ => rfl)) (pe_op op_mulW (pe_op op_mulW pe_int (pv 3)) (pv 3))) (pe_op op_mulW pe_int (pv 3))) pe_int) (pv 4)))
      (pss_one (ps_ret (pe_op op_mod (pe_op op_fdivW (pe_op op_mod (pe_op op_mulW (pv 5) (pe_op op_add (pe_op op_mod (pv 5) pe_int) (pe_op op_mulW pe_int (pv 3)))) pe_int) pe_int) (pv 1))))))))), ?_⟩
    refine ⟨.ref a, rfl, a, _, _, .int d, rfl, rfl, .inl (.inl hp), rfl, _, _, rfl, rfl, _, rfl, ite2 (fun h => ?_) (fun h => ?_)⟩
    · refine ⟨.ref a, rfl, a, _, _, .int d, rfl, rfl, .inl (.inl hp), rfl, _, rfl, _, _, rfl, rfl, (show 0 < z by omega), ?_⟩
      refine ⟨.ref a, rfl, a, _, _, .int d, rfl, rfl, .inl (.inl hp), rfl, _, rfl, _, _, rfl, rfl, wide_div (b := 4000) (by omega) hz2 (by decide) (by decide), .ref a, rfl, a, _, 0, 0, rfl, rfl, hp, rfl, ?_⟩
      refine ⟨_, rfl, q _ _ But.upd ⟨d / z, sd, m, upd_same, Int.ediv_nonneg hd (by omega), hs0, hs1, hm0, by omega⟩ (Int.emod_nonneg _ (by omega)) (Int.emod_lt_of_pos _ (by omega))⟩
    · refine ⟨.ref a, rfl, a, _, _, .int m, rfl, rfl, .inl (.inl hp), rfl, _, _, rfl, rfl, ?_⟩
      refine ⟨_, rfl, .ref a, rfl, a, _, 2, 2, rfl, rfl, hp, rfl, ?_⟩
      have hp1 : (upd H a (.lst (List.set [V.int d, V.int sd, V.int m] 2 (V.int (m + 1))))) a = some (.lst [V.int d, V.int sd, V.int (m + 1)]) := upd_same
      have b1 : But a H (upd H a (.lst (List.set [V.int d, V.int sd, V.int m] 2 (V.int (m + 1))))) := But.upd
      generalize upd H a (.lst (List.set [V.int d, V.int sd, V.int m] 2 (V.int (m + 1)))) = H1 at hp1 b1 ⊢
      refine ⟨sz60 (by simp), fun pl npl => ?_⟩
      have s2 := same_upd (o := .lst [V.int 2305843009213693951, V.int 2305843009213693921, V.int 2305843009213693907, V.int 67280421310721]) npl
      have hp2 := s2 _ _ hp1
      obtain ⟨pr, hpr, pr0, pr1⟩ := prime_at (m := m + 1) (by omega)
      refine ⟨_, rfl, _, _, rfl, rfl, (show (0 : Int) < 4 by decide), pl, _, _, .int pr, rfl, rfl, .inl (.inl upd_same), hpr, ?_⟩
      have k1 : (m + 1) * (m + 1) ≤ 100001 * 100001 := Int.mul_le_mul (by omega) (by omega) (by omega) (by omega)
      have k2 : (0 : Int) ≤ (m + 1) * (m + 1) := Int.mul_nonneg (by omega) (by omega)
      have k3 : 6700417 * (m + 1) * (m + 1) = 6700417 * ((m + 1) * (m + 1)) := Int.mul_assoc _ _ _
      refine ⟨.ref a, rfl, a, _, _, .int sd, rfl, rfl, .inl (.inl hp2), rfl, _, rfl, _, _, rfl, rfl, wide_mul (a := 23) (b := 18) (by decide) (by omega) (by decide) (by decide) (by decide), _, rfl, _, _, rfl, rfl, wide_mul (a := 42) (b := 18) (by omega) (by omega) (by decide) (by decide) (by decide), _, _, rfl, rfl, _, rfl, _, _, rfl, rfl, wide_mul (a := 17) (b := 18) (by decide) (by omega) (by decide) (by decide) (by decide), _, _, rfl, rfl, _, _, rfl, rfl, ⟨by decide, by decide, by omega⟩, _, rfl, _, _, rfl, rfl, pr0, ?_⟩
      generalize hmx : (sd + 6700417 * (m + 1) * (m + 1) + 65537 * (m + 1)) ^ (3 : Int).toNat % pr = mx
      have mx0 : 0 ≤ mx := by rw [← hmx]; exact Int.emod_nonneg _ (by omega)
      have mx1 : mx < pr := by rw [← hmx]; exact Int.emod_lt_of_pos _ pr0
      refine ⟨_, rfl, _, rfl, _, _, rfl, rfl, (show (0 : Int) < 10007 by decide), _, rfl, _, _, rfl, rfl, wide_mul (a := 7) (b := 18) (by decide) (by omega) (by decide) (by decide) (by decide), _, _, rfl, rfl, _, _, rfl, rfl, wide_mul (a := 61) (b := 25) (by omega) (by omega) (by decide) (by decide) (by decide), _, _, rfl, rfl, (show (0 : Int) < 2305843009213693669 by decide), _, _, rfl, rfl, wide_div (b := 13) (by decide) (by decide) (by decide) (by decide), _, rfl, _, _, rfl, rfl, (show 0 < z by omega), ?_⟩
      exact q _ _ (b1.trans (But.of s2)) ⟨d, sd, m + 1, hp2, hd, hs0, hs1, by omega, by omega⟩ (Int.emod_nonneg _ (by omega)) (Int.emod_lt_of_pos _ (by omega))
end
theorem wr_at {t : T} {i : Nat} (h : i < t.size) : t.wr[i]? = some (t.wr.getD i 0) := by
  rw [List.getD_eq_getElem?_getD, List.getElem?_eq_getElem (by rw [T.wr_len]; exact h)]; rfl
theorem rc_atD {t : T} {i : Nat} (h : i < t.size) : t.rc[i]? = some (t.rc.getD i 0) := by
  rw [List.getD_eq_getElem?_getD, List.getElem?_eq_getElem (by rw [T.rc_len]; exact h)]; rfl
def dRun (p : Nat × Nat) : PyData := .list ((ci (seg p.1 p.2)).map PyData.int)
def dPil (l : List (Nat × Nat)) : PyData := .list (l.map dRun)
def dPils (t : T) : List PyData := (List.range t.size).map fun i => dPil ((pre t (i + 1)).stk 0)
theorem dPils_len (t : T) : (dPils t).length = t.size := by simp [dPils]
theorem dPils_at {t : T} {i : Nat} (h : i < t.size) : (dPils t)[i]? = some (dPil ((pre t (i + 1)).stk 0)) := by simp [dPils, h]
theorem dPils_take {t : T} {i : Nat} (h : i < t.size) : (dPils t).take (i + 1) = (dPils t).take i ++ [dPil ((pre t (i + 1)).stk 0)] := by
  rw [List.take_add_one, dPils_at h]; rfl
theorem Same.put {G H : Hp} {r : Addr} {o : HO} (s : Same G H) (h : H r = some o) : Same (L2.upd G r o) H := fun b u e => by
  by_cases z : b = r
  · rw [z, upd_same] at e; cases e; rw [z]; exact h
  · rw [upd_ne z] at e; exact s _ _ e
/-- runs as lists, at their places -/
inductive RunsAt (G : Hp) : List V → List (Nat × Nat) → Prop
  | nil : RunsAt G [] []
  | cons {r : Addr} {p : Nat × Nat} {vs : List V} {l : List (Nat × Nat)} : G r = some (.lst (vi (seg p.1 p.2))) → RunsAt G vs l → RunsAt G (.ref r :: vs) (p :: l)
theorem RunsAt.len {G : Hp} : ∀ {vs : List V} {l : List (Nat × Nat)}, RunsAt G vs l → vs.length = l.length
  | _, _, .nil => rfl
  | _, _, .cons _ b => by simp [RunsAt.len b]
theorem RunsAt.snoc {G : Hp} : ∀ {vs : List V} {l : List (Nat × Nat)} {p : Nat × Nat}, RunsAt G vs (l ++ [p]) → ∃ us r, vs = us ++ [.ref r] ∧ RunsAt G us l ∧ G r = some (.lst (vi (seg p.1 p.2)))
  | _, [], _, .cons a .nil => ⟨[], _, rfl, .nil, a⟩
  | _, _ :: l, _, .cons a b => by
    obtain ⟨us, r, e, h1, h2⟩ := RunsAt.snoc b
    exact ⟨_ :: us, r, by rw [e]; rfl, .cons a h1, h2⟩
theorem RunsAt.add {G : Hp} {r : Addr} {p : Nat × Nat} (h : G r = some (.lst (vi (seg p.1 p.2)))) : ∀ {vs : List V} {l : List (Nat × Nat)}, RunsAt G vs l → RunsAt G (vs ++ [.ref r]) (l ++ [p])
  | _, _, .nil => .cons h .nil
  | _, _, .cons a b => .cons a (RunsAt.add h b)
theorem RunsAt.same {G G' : Hp} (s : Same G G') : ∀ {vs : List V} {l : List (Nat × Nat)}, RunsAt G vs l → RunsAt G' vs l
  | _, _, .nil => .nil
  | _, _, .cons a b => .cons (s _ _ a) (RunsAt.same s b)
theorem RunsAt.dp {K : PySem.W.Frag} {G : Hp} : ∀ {vs : List V} {l : List (Nat × Nat)}, RunsAt G vs l → DpAll K G vs (l.map dRun)
  | _, _, .nil => .nil
  | _, _, .cons (p := p) a b => .cons (.lst (.inl (.inl a)) (by rw [vi_ci]; exact dp_ints _)) (RunsAt.dp b)
section
variable {P : Program} {w : World} {K : PySem.W.Frag} {mg : Str → Option Value} {base : Heap}
def sp_L_piles (K : PySem.W.Frag) : Sp := fun vs H Q _ => ∃ (a : Addr) (t : T), vs = [.ref a] ∧ SqT K H a (vi t.sch) ∧ t.size ≤ 60 ∧ ∀ H' G p, Same H H' → Same G H' → (∀ b o, H b = some o → G b = none) → Dp K G (.ref p) (.list (dPils t)) → Q (.ref p) H'
def PilInv (K : PySem.W.Frag) (t : T) (H : Hp) (a F : Addr) (i : Nat) (σ : L2.St) (H' : Hp) : Prop :=
  ∃ (y3 y4 y5 y6 : Option V) (p : Addr) (G : Hp) (vs cs : List V), σ = [some (.ref a), some (.ref p), some (.ref F), y3, y4, y5, y6] ∧ Same H H' ∧ Same G H' ∧ (∀ b o, H b = some o → G b = none) ∧ G F = none ∧ G p = none ∧ p ≠ F ∧ H p = none ∧
    H' p = some (.lst vs) ∧ RunsAt G vs ((pre t i).stk 0) ∧ H' F = some (.lst cs) ∧ DpAll K G cs ((dPils t).take i)
theorem ok_L_piles (TX : Tx K mg) : FnOk P w K mg base CX0 1 TX.a_L_piles TX.fd_L_piles ["_law_plan"] (sp_L_piles K) := by
  refine TX.f_L_piles.ok sc_L_piles (fun vs H Q E h => ?_) (fun cdv A outer s H vs Q E hr h => ?_)
  · obtain ⟨a, t, rfl, _⟩ := h; rfl
  · obtain ⟨a, t, rfl, hS, hz, q⟩ := h
    have hlen : (vi t.sch).length = t.size := by rw [vi_len, T.sch_len]
    refine ⟨_, (pss_cons (ps_par (i := 1) (j := 2) (by rfl) sc_L_piles.nd rfl rfl (by decide) rfl rfl (pa_cons (pe_lst pa_nil) (pa_cons (pe_lst pa_nil) pa_nil)) (by rfl))
      (pss_cons (ps_for PassesOwn.never rfl (pi_enumT (by rfl) TX.b_enumerate (pa_cons (pv 0) pa_nil)) (pg_tup rfl (pgs_cons (pg_name (i := 3) sc_L_piles.nd rfl (.inl rfl)) (pgs_cons (pg_name (i := 4) sc_L_piles.nd rfl (.inl rfl)) pgs_nil)))
        (pss_cons (ps_set (i := 5) sc_L_piles.nd rfl (.inl rfl) (pe_lst pa_nil))
        (pss_cons (ps_for PassesOwn.never rfl (pi_range1 (by rfl) TX.b_range (pa_cons (pv 4) pa_nil)) (pg_name (i := 6) sc_L_piles.nd rfl (.inl rfl))
          (pss_one (ps_set (i := 5) sc_L_piles.nd rfl (.inl rfl) (pe_op op_cat (pe_bm0 PySem.F.plainAttrs_list PySem.F.slot_list_pop PySem.F.type_list_pop mt_pop (pv 1)) (pv 5)))))
        (pss_cons (ps_set (i := 1) sc_L_piles.nd rfl (.inl rfl) (pe_op op_cat (pv 1) (pe_lst (pa_cons (pe_op op_cat (pv 5) (pe_lst (pa_cons (pv 3) pa_nil))) pa_nil))))
        (pss_one (ps_expr (pe_bm PySem.F.plainAttrs_list PySem.F.slot_list_append PySem.F.type_list_append mt_append (pv 2) (pa_cons (pe_callTy (T := "list") (k_listOf (K := K) rfl) (by rfl) TX.b_list (by decide +kernel) (pa_cons (pv 1) pa_nil)) pa_nil))))))))
      (pss_one (ps_ret (pv 2))))), ?_⟩
    refine ⟨sz60 (by simp), fun p0 n0 => ⟨sz60 (by simp), fun F nF => ⟨_, _, rfl, ?_⟩⟩⟩
    have s0 : Same H (upd H p0 (.lst [])) := same_upd n0
    have s1 : Same (upd H p0 (.lst [])) (upd (upd H p0 (.lst [])) F (.lst [])) := same_upd nF
    have nFH : H F = none := s0.free nF
    have np0 : p0 ≠ F := fun e => by rw [e, upd_same] at nF; cases nF
    refine ⟨.ref a, rfl, a, _, rfl, Same.tup (s0.trans s1) hS, for_it walk_enumT (PilInv K t H a F)
      ⟨none, none, none, none, p0, fun _ => none, [], [], rfl, s0.trans s1, fun _ _ e => (nomatch e), fun _ _ _ => rfl, rfl, rfl, np0, n0, s1 _ _ upd_same, .nil, upd_same, .nil⟩ (fun i σ H' _ ⟨_, _, _, _, _, _, _, _, _, h, _⟩ => Same.tup h hS) ?_ ?_⟩
    · rintro i x σ H1 H2 hi ⟨y3, y4, y5, y6, p, G, vs, cs, rfl, sm, sG, dis, gF, gp, npF, npH, hp, hR, hF, hC⟩ hy
      obtain ⟨Tp, x1, x2, rfl, nT, rfl, e1, e2⟩ := hy
      cases e1
      rw [hlen] at hi
      obtain ⟨m, hm⟩ : ∃ m, t.sch[i]? = some m := ⟨_, List.getElem?_eq_getElem (show i < t.sch.length by rw [T.sch_len]; exact hi)⟩
      replace e2 : (vi t.sch)[i]? = some x2 := e2
      rw [vi_get hm] at e2
      cases e2
      obtain ⟨f1, f2⟩ := pre_succ hm
      have f3 := stk_last hm
      have hps : (pre t i).size = i := pre_size (by omega)
      have hst := T.start_le _ _ f2
      have hrl := T.runs_le (pre t i)
      have sT : Same H1 (upd H1 Tp (.tup [.int (i : Nat), .int (m : Int)])) := same_upd nT
      refine ⟨Tp, _, rfl, .inl (.inl upd_same), rfl, _, _, rfl, _, [], rfl, rfl, ?_⟩
      have sm2 := sm.trans sT
      have sG2 := sG.trans sT
      have hp2 := sT _ _ hp
      have hF2 := sT _ _ hF
      generalize upd H1 Tp (.tup [.int (i : Nat), .int (m : Int)]) = H2 at sm2 sG2 hp2 hF2 ⊢
      refine ⟨sz60 (by simp), fun n1 nn1 => ?_⟩
      have s3 := same_upd (o := .lst []) nn1
      have nnp : n1 ≠ p := fun e => by rw [e, hp2] at nn1; cases nn1
      have nnF : n1 ≠ F := fun e => by rw [e, hF2] at nn1; cases nn1
      -- the runs that are merged
      refine ⟨_, rfl, _, rfl, by omega, by omega, for_range (lo := 0) (n := ((m : Nat) : Int).toNat) (fun j σ H' => ∃ (y6 : Option V) (nw : Addr) (ws : List V), σ = [some (.ref a), some (.ref p), some (.ref F), some (.int (i : Nat)), some (.int (m : Int)), some (.ref nw), y6] ∧ Same H H' ∧ Same G H' ∧ H' p = some (.lst ws) ∧ RunsAt G ws (((pre t i).stk 0).take ((pre t i).runs - j)) ∧ H' nw = some (.lst (vi (seg ((pre t i).start j) i))) ∧ nw ≠ p ∧ nw ≠ F ∧ H' F = some (.lst cs))
        ⟨y6, n1, vs, rfl, sm2.trans s3, sG2.trans s3, s3 _ _ hp2, ?_, ?_, nnp, nnF, s3 _ _ hF2⟩ ?_ ?_⟩
      · rw [Nat.sub_zero, List.take_of_length_le (by rw [T.stk_len]; omega)]; exact hR
      · rw [T.start_zero _ 0 (by omega) rfl, hps, seg_nil]; exact upd_same
      · rintro j σ H4 hj ⟨y6', nw, ws, rfl, s4, sG4, hp4, hR4, hw4, nwp, nwF, hF4⟩
        have hjm : j + 1 ≤ (pre t i).runs := by omega
        rw [stk_take_succ 0 hjm, Nat.zero_add, Nat.zero_add] at hR4
        obtain ⟨us, r, rfl, hR5, hr5⟩ := RunsAt.snoc hR4
        have hdl : (us ++ [V.ref r]).dropLast = us := by simp
        have nrp : r ≠ p := fun e => by rw [e, gp] at hr5; cases hr5
        have sta := start_anti (pre t i) j hjm
        have stl := T.start_le (pre t i) j (by omega)
        refine ⟨.ref p, rfl, .inl ⟨rfl, _, .inl (.inl hp4)⟩, p, _, .ref r, rfl, rfl, hp4, by simp, .ref nw, rfl, r, nw, vi (seg ((pre t i).start (j + 1)) ((pre t i).start j)), vi (seg ((pre t i).start j) i), rfl, rfl, ?_, ?_, sz60 (by rw [vi_len, vi_len, seg_len, seg_len]; omega), fun z nz => ?_⟩
        · rw [upd_ne nrp]; exact sG4 _ _ hr5
        · rw [upd_ne nwp]; exact hw4
        rw [hdl] at nz ⊢
        have sz := same_upd (o := .lst (vi (seg ((pre t i).start (j + 1)) ((pre t i).start j)) ++ vi (seg ((pre t i).start j) i))) nz
        have nzp : z ≠ p := fun e => by rw [e, upd_same] at nz; cases nz
        have nzF : z ≠ F := fun e => by rw [e, upd_ne npF.symm, hF4] at nz; cases nz
        refine ⟨_, z, us, rfl, (Same.mut s4 npH).trans sz, (Same.mut sG4 gp).trans sz, sz _ _ upd_same, hR5, ?_, nzp, nzF, sz _ _ (by rw [upd_ne npF.symm]; exact hF4)⟩
        have e : vi (seg ((pre t i).start (j + 1)) i) = vi (seg ((pre t i).start (j + 1)) ((pre t i).start j)) ++ vi (seg ((pre t i).start j) i) := by
          rw [← vi_app, seg_app (by omega) (by omega)]
        rw [e]; exact upd_same
      · rintro σ H4 ⟨y6', nw, ws, rfl, s4, sG4, hp4, hR4, hw4, nwp, nwF, hF4⟩
        rw [Int.toNat_natCast] at hR4 hw4
        have hwl := RunsAt.len hR4
        rw [List.length_take, T.stk_len] at hwl
        -- piles + [newest + [flush]]
        refine ⟨.ref p, rfl, .ref nw, rfl, .int (i : Nat), rfl, sz60 (by simp), fun z1 nz1 => ?_⟩
        have s5 := same_upd (o := .lst [V.int (i : Nat)]) nz1
        refine ⟨nw, z1, _, _, rfl, rfl, s5 _ _ hw4, upd_same, sz60 (by simp [vi_len, seg_len]; omega), fun r nr => ⟨sz60 (by simp), fun z2 nz2 => ?_⟩⟩
        have s6 := same_upd (o := .lst (vi (seg ((pre t i).start m) i) ++ [V.int (i : Nat)])) nr
        have s7 := same_upd (o := .lst [V.ref r]) nz2
        refine ⟨p, z2, _, _, rfl, rfl, s7 _ _ (s6 _ _ (s5 _ _ hp4)), upd_same, sz60 (by simp; omega), fun p' np' => ?_⟩
        have s8 := same_upd (o := .lst (ws ++ [V.ref r])) np'
        have s48 := ((s5.trans s6).trans s7).trans s8
        have hr8 : (upd (upd (upd (upd H4 z1 (.lst [V.int (i : Nat)])) r (.lst (vi (seg ((pre t i).start m) i) ++ [V.int (i : Nat)]))) z2 (.lst [V.ref r])) p' (.lst (ws ++ [V.ref r]))) r = some (.lst (vi (seg ((pre t i).start m) (i + 1)))) := by
          have e : vi (seg ((pre t i).start m) (i + 1)) = vi (seg ((pre t i).start m) i) ++ [V.int (i : Nat)] := by
            rw [← seg_app (b := i) (by omega) (by omega), seg_one, vi_app]; rfl
          rw [e]; exact s8 _ _ (s7 _ _ upd_same)
        have hp8 : (upd (upd (upd (upd H4 z1 (.lst [V.int (i : Nat)])) r (.lst (vi (seg ((pre t i).start m) i) ++ [V.int (i : Nat)]))) z2 (.lst [V.ref r])) p' (.lst (ws ++ [V.ref r]))) p' = some (.lst (ws ++ [V.ref r])) := upd_same
        have hF8 := s48 _ _ hF4
        have nrH4 : H4 r = none := s5.free nr
        have np4 : H4 p' = none := ((s5.trans s6).trans s7).free np'
        have npr : p' ≠ r := fun e => by rw [e] at np'; have := s7.free np'; rw [upd_same] at this; cases this
        generalize upd (upd (upd (upd H4 z1 (.lst [V.int (i : Nat)])) r (.lst (vi (seg ((pre t i).start m) i) ++ [V.int (i : Nat)]))) z2 (.lst [V.ref r])) p' (.lst (ws ++ [V.ref r])) = H8 at s48 hr8 hp8 hF8 ⊢
        -- found.append(list(piles))
        refine ⟨.ref F, rfl, .inl ⟨rfl, _, .inl (.inl hF8)⟩, .ref p', rfl, p', _, rfl, .inl (.inl (.inl hp8)), fun c nc => ?_⟩
        have s9 := same_upd (o := .lst (ws ++ [V.ref r])) nc
        have hcl := DpAll.len hC
        rw [List.length_take, dPils_len] at hcl
        refine ⟨F, _, _, rfl, rfl, s9 _ _ hF8, sz61 (by omega), ?_⟩
        -- what stays for ever
        have gr4 : G r = none := sG4.free nrH4
        have gc : (upd G r (.lst (vi (seg ((pre t i).start m) (i + 1))))) c = none := (Same.put (sG4.trans s48) hr8).free nc
        have sG9 : Same (upd (upd G r (.lst (vi (seg ((pre t i).start m) (i + 1))))) c (.lst (ws ++ [V.ref r]))) (upd H8 c (.lst (ws ++ [V.ref r]))) := Same.put ((Same.put (sG4.trans s48) hr8).trans s9) upd_same
        have nF4 : F ≠ r := fun e => by rw [← e, hF4] at nrH4; cases nrH4
        have nFc : F ≠ c := fun e => by rw [← e, hF8] at nc; cases nc
        have npc : p' ≠ c := fun e => by rw [← e, hp8] at nc; cases nc
        have gr9 : Same G (upd (upd G r (.lst (vi (seg ((pre t i).start m) (i + 1))))) c (.lst (ws ++ [V.ref r]))) := (same_upd gr4).trans (same_upd gc)
        have hRn : RunsAt (upd (upd G r (.lst (vi (seg ((pre t i).start m) (i + 1))))) c (.lst (ws ++ [V.ref r]))) (ws ++ [V.ref r]) ((pre t (i + 1)).stk 0) := by
          rw [f3]
          exact RunsAt.add (same_upd gc _ _ upd_same) (RunsAt.same gr9 hR4)
        have gF9 : (upd (upd G r (.lst (vi (seg ((pre t i).start m) (i + 1))))) c (.lst (ws ++ [V.ref r]))) F = none := by rw [upd_ne nFc, upd_ne nF4]; exact gF
        have gp4 : G p' = none := sG4.free np4
        refine ⟨_, _, _, _, p', upd (upd G r (.lst (vi (seg ((pre t i).start m) (i + 1))))) c (.lst (ws ++ [V.ref r])), ws ++ [V.ref r], cs ++ [.ref c], rfl, Same.mut ((s4.trans s48).trans s9) nFH, Same.mut sG9 gF9, fun b o e => ?_, gF9, ?_, ?_, s4.free np4, ?_, hRn, upd_same, ?_⟩
        · have hb4 := s4 _ _ e
          rw [upd_ne (fun z => by rw [z] at hb4; have := s48 _ _ hb4; rw [nc] at this; cases this), upd_ne (fun z => by rw [z, nrH4] at hb4; cases hb4)]
          exact dis b o e
        · rw [upd_ne npc, upd_ne npr]; exact gp4
        · exact fun e => by rw [e, hF4] at np4; cases np4
        · rw [upd_ne (fun e => by rw [e, hF4] at np4; cases np4)]; exact s9 _ _ hp8
        · rw [dPils_take hi]
          exact DpAll.append (DpAll.same gr9 hC) (.cons (.lst (.inl (.inl upd_same)) (RunsAt.dp hRn)) .nil)
    · rintro σ H' ⟨y3, y4, y5, y6, p, G, vs, cs, rfl, sm, sG, dis, gF, gp, npF, npH, hp, hR, hF, hC⟩
      rw [hlen, List.take_of_length_le (by rw [dPils_len]; omega)] at hC
      refine ⟨.ref F, rfl, q H' (upd G F (.lst cs)) F sm (Same.put sG hF) (fun b o e => ?_) (.lst (.inl (.inl upd_same)) (DpAll.same (same_upd gF) hC))⟩
      rw [upd_ne (ne_of_none e nFH)]
      exact dis b o e
end
theorem Dp.lstInv {K : PySem.W.Frag} {H : Hp} {v : V} {ds : List PyData} (h : Dp K H v (.list ds)) : ∃ a xs, v = .ref a ∧ SqL K H a xs ∧ DpAll K H xs ds := by
  cases h with
  | lst h1 h2 => exact ⟨_, _, rfl, h1, h2⟩
theorem Dp.runInv {K : PySem.W.Frag} {H : Hp} {v : V} {p : Nat × Nat} (h : Dp K H v (dRun p)) : ∃ a, v = .ref a ∧ SqL K H a (vi (seg p.1 p.2)) := by
  obtain ⟨a, xs, e, h1, h2⟩ := Dp.lstInv h
  rw [dp_ints_inv h2, ← vi_ci] at h1
  exact ⟨a, e, h1⟩
section
variable {P : Program} {w : World} {K : PySem.W.Frag} {mg : Str → Option Value} {base : Heap}
def sp_L_written (K : PySem.W.Frag) : Sp := fun vs H Q _ => ∃ (a : Addr) (t : T), vs = [.ref a] ∧ SqT K H a (vi t.sch) ∧ t.size ≤ 60 ∧ ∀ H' p, Same H H' → H p = none → H' p = some (.lst (vi t.wr)) → Q (.ref p) H'
theorem ok_L_written (TX : Tx K mg) : FnOk P w K mg base CX0 2 TX.a_L_written TX.fd_L_written ["_law_plan"] (sp_L_written K) := by
  refine TX.f_L_written.ok sc_L_written (fun vs H Q E h => ?_) (fun cdv A outer s H vs Q E hr h => ?_)
  · obtain ⟨a, t, rfl, _⟩ := h; rfl
  · obtain ⟨a, t, rfl, hS, hz, q⟩ := h
    have hlen : (vi t.sch).length = t.size := by rw [vi_len, T.sch_len]
    refine ⟨_, (pss_cons (ps_set (i := 1) sc_L_written.nd rfl (.inl rfl) (pe_op op_rep (pe_lst (pa_cons pe_int pa_nil)) (pe_callB (id := "len") (k_len (K := K) rfl) (by rfl) TX.b_len (by decide +kernel) (pa_cons (pv 0) pa_nil))))
      (pss_cons (ps_for PassesOwn.never rfl (k_piL (K := K) rfl (pe_call (ok_L_piles TX) (hr.mono (by decide)) (by rfl) TX.g_L_piles TX.f_L_piles.kp TX.bd_L_piles .nil pass0 (pa_cons (pv 0) pa_nil))) (pg_name (i := 2) sc_L_written.nd rfl (.inl rfl))
        (pss_one (ps_for PassesOwn.never rfl (k_piL (K := K) rfl (pe_ix (k_ixL (K := K) rfl) (pv 2) (pe_un un_neg pe_int) (fun _ _ => rfl))) (pg_name (i := 3) sc_L_written.nd rfl (.inl rfl))
          (pss_one (ps_asg (pe_op op_add (pe_ix (k_ixL (K := K) rfl) (pv 1) (pv 3) (fun _ _ => rfl)) pe_int) (pg_sub (pv 1) (pv 3) set_list))))))
      (pss_one (ps_ret (pv 1))))), ?_⟩
    refine ⟨sz60 (by simp), fun z nz => ?_⟩
    have s2 : Same H (upd H z (.lst [.int 0])) := same_upd nz
    refine ⟨.ref a, rfl, a, _, rfl, .inr (Same.tup s2 hS), z, _, _, rfl, rfl, upd_same, by omega, by omega, sz60 (by simp; omega), fun l nl => ?_⟩
    have s3 := same_upd (o := .lst (List.replicate (((vi t.sch).length : Int)).toNat [V.int 0]).flatten) nl
    have ec : (List.replicate (((vi t.sch).length : Int)).toNat [V.int 0]).flatten = vi (List.replicate t.size 0) := by
      rw [vi_rep, Int.toNat_natCast, hlen, List.flatten_replicate_singleton]; rfl
    rw [ec] at s3 ⊢
    have nlH : H l = none := s2.free nl
    have s13 := s2.trans s3
    generalize hH3 : upd (upd H z (HO.lst [V.int 0])) l (HO.lst (vi (List.replicate t.size 0))) = H3 at s3 s13 ⊢
    have hl3 : H3 l = some (.lst (vi (List.replicate t.size 0))) := by rw [← hH3]; exact upd_same
    refine ⟨.ref a, rfl, a, t, rfl, Same.tup s13 hS, hz, fun H4 G p s4 sG dis hD => ?_⟩
    obtain ⟨p', xs, e, hX, hA⟩ := Dp.lstInv hD
    cases e
    have gl : G l = none := dis _ _ hl3
    have hxl := DpAll.len hA
    rw [dPils_len] at hxl
    refine ⟨p, rfl, ⟨_, sG.seq hX⟩, for_list (K := K) (xs := xs) (fun i σ H' => ∃ (y2 y3 : Option V) (c : List Nat), σ = [some (.ref a), some (.ref l), y2, y3] ∧ Same H H' ∧ Same G H' ∧ H' l = some (.lst (vi c)) ∧ c.length = t.size ∧ ∀ k, k < t.size → c[k]? = some ((pre t i).wr.getD k 0))
      ⟨none, none, List.replicate t.size 0, rfl, s13.trans s4, sG, s4 _ _ hl3, by simp, fun k hk => by rw [List.getElem?_replicate, if_pos hk]; rfl⟩ (fun i σ H' _ ⟨_, _, _, _, _, h, _⟩ => h.seq hX) ?_ ?_⟩
    · rintro i x σ H5 hx ⟨y2, y3, c, rfl, s5, sG5, hc, hcl, hcv⟩
      have hi : i < t.size := by rw [← hxl]; exact (List.getElem?_eq_some_iff.mp hx).1
      obtain ⟨m, hm⟩ : ∃ m, t.sch[i]? = some m := ⟨_, List.getElem?_eq_getElem (show i < t.sch.length by rw [T.sch_len]; exact hi)⟩
      obtain ⟨f1, f2⟩ := pre_succ hm
      have fs := T.start_le _ _ f2
      rw [pre_size (by omega)] at fs
      obtain ⟨v, g1, g2⟩ := DpAll.get hA (dPils_at hi)
      rw [hx] at g1
      cases g1
      obtain ⟨b, us, rfl, g3, g4⟩ := Dp.lstInv g2
      rw [stk_last hm, List.map_append] at g4
      obtain ⟨us', v', rfl, _, g5⟩ := DpAll.snoc g4
      obtain ⟨b', rfl, g6⟩ := Dp.runInv g5
      refine ⟨.ref b, rfl, _, rfl, b, _, -1, _, rfl, rfl, sG5.seq g3, atI_last _ _, b', rfl, ⟨_, sG5.seq g6⟩, for_list (K := K) (xs := vi (seg ((pre t i).start m) (i + 1)))
        (fun j σ H' => ∃ (y3 : Option V) (c : List Nat), σ = [some (.ref a), some (.ref l), some (.ref b), y3] ∧ Same H H' ∧ Same G H' ∧ H' l = some (.lst (vi c)) ∧ c.length = t.size ∧ ∀ k, k < t.size → c[k]? = some (if (pre t i).start m ≤ k ∧ k < (pre t i).start m + j then (pre t i).wr.getD k 0 + 1 else (pre t i).wr.getD k 0))
        ⟨y3, c, rfl, s5, sG5, hc, hcl, fun k hk => by rw [if_neg (by omega)]; exact hcv k hk⟩ (fun j σ H' _ ⟨_, _, _, _, h, _⟩ => h.seq g6) ?_ ?_⟩
      · rintro j x σ H6 hx ⟨y3, c, rfl, s6, sG6, hc, hcl, hcv⟩
        have hj : j < i + 1 - (pre t i).start m := by
          have := (List.getElem?_eq_some_iff.mp hx).1
          rwa [vi_len, seg_len] at this
        have hj2 : (pre t i).start m + j < t.size := by omega
        rw [vi_get (seg_at (by omega))] at hx
        cases hx
        have h6 := hcv _ hj2
        rw [if_neg (by omega)] at h6
        refine ⟨.ref l, rfl, _, rfl, l, _, _, _, rfl, rfl, .inl (.inl hc), at_vi h6, _, _, rfl, rfl, .ref l, rfl, _, rfl, l, _, _, _, rfl, rfl, hc, ixN_of (by rw [vi_len]; omega), ?_⟩
        have e2 : (((pre t i).wr.getD ((pre t i).start m + j) 0 : Nat) : Int) + 1 = (((pre t i).wr.getD ((pre t i).start m + j) 0 + 1 : Nat) : Int) := by omega
        refine ⟨_, c.set ((pre t i).start m + j) ((pre t i).wr.getD ((pre t i).start m + j) 0 + 1), rfl, Same.mut s6 nlH, Same.mut sG6 gl, ?_, by rw [List.length_set]; exact hcl, fun k hk => ?_⟩
        · rw [← vi_set, ← e2]; exact upd_same
        · by_cases hk2 : (pre t i).start m + j = k
          · rw [← hk2, List.getElem?_set_self (by omega), if_pos (by omega)]
          · rw [List.getElem?_set_ne hk2, hcv k hk]
            by_cases hk3 : (pre t i).start m ≤ k ∧ k < (pre t i).start m + j
            · rw [if_pos hk3, if_pos (by omega)]
            · rw [if_neg hk3, if_neg (by omega)]
      · rintro σ H6 ⟨y3, c, rfl, s6, sG6, hc, hcl, hcv⟩
        rw [vi_len, seg_len] at hcv
        refine ⟨_, y3, c, rfl, s6, sG6, hc, hcl, fun k hk => ?_⟩
        rw [hcv k hk, f1, wr_step f2, pre_size (by omega)]
        by_cases hk3 : (pre t i).start m ≤ k ∧ k < i + 1
        · rw [if_pos (by omega), if_pos hk3]
        · rw [if_neg (by omega), if_neg hk3]
    · rintro σ H5 ⟨y2, y3, c, rfl, s5, sG5, hc, hcl, hcv⟩
      rw [hxl, pre_all] at hcv
      have ecw : c = t.wr := list_by (by rw [hcl, T.wr_len]) fun k hk => hcv k (by omega)
      rw [ecw] at hc
      exact ⟨.ref l, rfl, q H5 l s5 nlH hc⟩
end
section
variable {P : Program} {w : World} {K : PySem.W.Frag} {mg : Str → Option Value} {base : Heap}
def sp_L_root (K : PySem.W.Frag) : Sp := fun vs H Q _ => ∃ (a : Addr) (l r : T), vs = [.ref a] ∧ SqT K H a (vi (T.node l r).sch) ∧ (T.node l r).size ≤ 60 ∧ ∀ H', Same H H' → Q (.int (l.size : Int)) H'
theorem ok_L_root (TX : Tx K mg) : FnOk P w K mg base CX0 2 TX.a_L_root TX.fd_L_root ["_law_plan"] (sp_L_root K) := by
  refine TX.f_L_root.ok sc_L_root (fun vs H Q E h => ?_) (fun cdv A outer s H vs Q E hr h => ?_)
  · obtain ⟨a, l, r, rfl, _⟩ := h; rfl
  · obtain ⟨a, l, r, rfl, hS, hz, q⟩ := h
    refine ⟨_, (pss_one (ps_ret (pe_callB (id := "max") (cr_max rfl) (by rfl) TX.b_max (by decide +kernel) (pa_cons (pe_lc (own := [("_law_flush", 1), ("_law_piles", 2)]) (by rfl) sc_L_root.nd (pi_enum (by rfl) TX.b_enumerate (pa_cons (pe_call (ok_L_piles TX) (hr.mono (by decide)) (by rfl) TX.g_L_piles TX.f_L_piles.kp TX.bd_L_piles .nil pass0 (pa_cons (pv 0) pa_nil)) pa_nil)) (blkOk_by (own := [("_law_flush", 1), ("_law_piles", 2)]) (N := N_L_root) (sc := defScope s_L_root) (by decide +kernel)) (fun _ _ _ _ _ => (k_pgT2 (K := K) rfl rfl (pg_name (i := 1) sc_L_root.nd rfl (Or.inl rfl)) (pg_name (i := 2) sc_L_root.nd rfl (Or.inl rfl)))) (fun _ _ _ _ _ => (pts_one (pt_cmpR op_eq (pe_callB (id := "len") (k_len (K := K) rfl) (by rfl) TX.b_len (by decide +kernel) (pa_cons (pv 2) pa_nil)) pe_int (nomark _)))) (fun _ _ _ _ _ => (pv 1))) pa_nil)))), ?_⟩
    refine ⟨.ref a, rfl, a, .node l r, rfl, hS, hz, fun H1 G p s1 sG dis hD => ?_⟩
    obtain ⟨p', xs, e, hX, hA⟩ := Dp.lstInv hD
    cases e
    have hxl := DpAll.len hA
    rw [dPils_len] at hxl
    refine ⟨p, xs, rfl, sG.seq hX, fun D nD => ?_⟩
    refine lc_sel (K := K) (walk_enum (xs := xs)) (fun i => decide ((T.node l r).rc.getD i 0 = 1)) (fun i => .int (i : Int)) (fun i _ => .int _) (by omega) nD (fun H' s' => (sG.trans s').seq hX) ?_ ?_ mono_pair (fun σ' H' Q Q' hm h => ?_)
    · rintro i x Hx Hx' hi sx hy R hR
      obtain ⟨Tp, x1, x2, rfl, nT, rfl, e1, e2⟩ := hy
      cases e1
      have hi2 : i < (T.node l r).size := by omega
      obtain ⟨v, g1, g2⟩ := DpAll.get hA (dPils_at hi2)
      replace e2 : xs[i]? = some x2 := e2
      rw [e2] at g1
      cases g1
      obtain ⟨b, us, rfl, g3, g4⟩ := Dp.lstInv g2
      have hul := DpAll.len g4
      rw [List.length_map, T.stk_len] at hul
      have e := pre_runs hi2
      rw [rc_atD hi2] at e
      have e' : (T.node l r).rc.getD i 0 = us.length := by rw [hul]; exact Option.some.inj e
      have sT := same_upd (o := .tup [V.int ((i : Nat) : Int), V.ref b]) nT
      refine ⟨Tp, _, rfl, .inl (.inl upd_same), rfl, _, _, rfl, _, [], rfl, rfl, rfl, .ref b, rfl, b, us, rfl, .inl ((((sG.trans sx).trans sT)).seq g3), rfl, _, rfl, ?_, sT, fun _ => ⟨_, rfl, hR _ _ sT (.int _)⟩⟩
      show decide (V.int (us.length : Int) = V.int 1) = decide ((T.node l r).rc.getD i 0 = 1)
      rw [e']
      refine decide_eq_decide.mpr ⟨fun z => ?_, fun z => by rw [z]; rfl⟩
      have := V.int.inj z
      omega
    · intro H2 acc s2 ha hAcc
      have em : ((List.range xs.length).filter fun i => decide ((T.node l r).rc.getD i 0 = 1)).map (fun (i : Nat) => PyData.int (i : Int)) = (((List.range xs.length).filter fun i => decide ((T.node l r).rc.getD i 0 = 1)).map fun (i : Nat) => (i : Int)).map PyData.int := by
        rw [List.map_map]; rfl
      rw [em] at hAcc
      rw [dp_ints_inv hAcc] at ha
      have hroot : (l.size : Int) ∈ ((List.range xs.length).filter fun i => decide ((T.node l r).rc.getD i 0 = 1)).map fun (i : Nat) => (i : Int) := by
        refine List.mem_map.mpr ⟨l.size, List.mem_filter.mpr ⟨List.mem_range.mpr ?_, ?_⟩, rfl⟩
        · rw [hxl]; show l.size < l.size + 1 + r.size; omega
        · rw [rc_m]; rfl
      refine ⟨D, _, rfl, .inl (.inl ha), List.length_pos_of_mem hroot, fun m hm hy => ?_⟩
      have h1 := hy _ hroot
      obtain ⟨i, hi, rfl⟩ := List.mem_map.mp hm
      obtain ⟨h2, h3⟩ := List.mem_filter.mp hi
      have h4 := List.mem_range.mp h2
      rw [hxl] at h4
      have h5 := of_decide_eq_true h3
      have h6 : i ≤ l.size := rc_one (r := r) (by rw [rc_atD h4, h5])
      have h7 : i = l.size := by omega
      rw [h7]
      exact q _ (s1.trans s2)
    · obtain ⟨x, e1, b, ys, e2, e3, e4, c, e5, e6⟩ := h
      exact ⟨x, e1, b, ys, e2, e3, e4, c, e5, hm _ _ e6⟩
end
theorem ciSum : ∀ p : List Nat, (ci p).sum = (p.sum : Int)
  | [] => rfl
  | m :: r => by
    have := ciSum r
    show ((m : Int) :: ci r).sum = _
    rw [List.sum_cons, this, List.sum_cons]; omega
def allS : Nat → List T
  | 0 => [.nil]
  | n + 1 => (allS n).flatMap fun t => (List.range (t.runs + 1)).map t.push
theorem allS_size : ∀ (n : Nat) (t : T), t ∈ allS n → t.size = n
  | 0, t, h => by
    have : t = .nil := by simpa [allS] using h
    rw [this]; rfl
  | n + 1, t, h => by
    simp only [allS, List.mem_flatMap, List.mem_map, List.mem_range] at h
    obtain ⟨u, hu, m, hm, rfl⟩ := h
    rw [T.push_size u m (by omega), allS_size n u hu]
theorem allS_len {n : Nat} (h : n ≤ 8) : (allS n).length ≤ 1430 := by
  have h8 : ∀ n : Fin 9, (allS n.val).length ≤ 1430 := by decide +kernel
  exact h8 ⟨n, by omega⟩
def dSch (t : T) : PyData := .tuple ((ci t.sch).map PyData.int)
theorem tf_sch (t : T) : Tf (dSch t) := .tup (tf_ints _)
def dNext (t : T) : List PyData := (List.range (t.runs + 1)).map fun m => dSch (t.push m)
theorem tf_next (t : T) : ∀ d, d ∈ dNext t → Tf d := fun d h => by
  obtain ⟨m, _, rfl⟩ := List.mem_map.mp h
  exact tf_sch _
theorem tf_nexts (L : List T) : ∀ d, d ∈ L.flatMap dNext → Tf d := fun d h => by
  obtain ⟨t, _, h⟩ := List.mem_flatMap.mp h
  exact tf_next t d h
theorem dNext_all (n : Nat) : (allS n).flatMap dNext = (allS (n + 1)).map dSch := by
  rw [allS, List.map_flatMap]
  congr 1
  funext t
  rw [dNext, List.map_map]; rfl
theorem flat_take {L : List T} {j : Nat} {t : T} (h : L[j]? = some t) : (L.take (j + 1)).flatMap dNext = (L.take j).flatMap dNext ++ dNext t := by
  rw [List.take_add_one, h]
  simp [List.flatMap_append]
theorem flat_le (L : List T) (j : Nat) : ((L.take j).flatMap dNext).length ≤ (L.flatMap dNext).length := by
  conv => rhs; rw [← List.take_append_drop j L, List.flatMap_append, List.length_append]
  omega
section
variable {P : Program} {w : World} {K : PySem.W.Frag} {mg : Str → Option Value} {base : Heap}
def sp_L_all (K : PySem.W.Frag) : Sp := fun vs H Q _ => ∃ n : Nat, vs = [.int (n : Int)] ∧ n ≤ 8 ∧ ∀ H' p xs, Same H H' → H' p = some (.lst xs) → DpAll K H' xs ((allS n).map dSch) → Q (.ref p) H'
theorem ok_L_all (TX : Tx K mg) : FnOk P w K mg base CX0 1 TX.a_L_all TX.fd_L_all ["_law_size"] (sp_L_all K) := by
  refine TX.f_L_all.ok sc_L_all (fun vs H Q E h => ?_) (fun cdv A outer s H vs Q E hr h => ?_)
  · obtain ⟨n, rfl, _⟩ := h; rfl
  · obtain ⟨n, rfl, hn, q⟩ := h
    refine ⟨_, (pss_cons (ps_set (i := 1) sc_L_all.nd rfl (.inl rfl) (pe_lst (pa_cons (pe_tup pa_nil) pa_nil)))
      (pss_cons (ps_for PassesOwn.never rfl (pi_range1 (by rfl) TX.b_range (pa_cons (pv 0) pa_nil)) (pg_name (i := 2) sc_L_all.nd rfl (.inl rfl))
        (pss_cons (ps_set (i := 3) sc_L_all.nd rfl (.inl rfl) (pe_lst pa_nil))
        (pss_cons (ps_for PassesOwn.never rfl (k_piL (K := K) rfl (pv 1)) (pg_name (i := 4) sc_L_all.nd rfl (.inr rfl))
          (pss_one (ps_expr (pe_bm PySem.F.plainAttrs_list PySem.F.slot_list_extend PySem.F.type_list_extend mt_extend (pv 3) (pa_cons (pe_lc (own := [("_law_merge", 5)]) (by rfl) sc_L_all.nd (pi_range1 (by rfl) TX.b_range (pa_cons (pe_op op_add (pe_op op_sub (pv 2) (pe_callB (id := "sum") (k_sumT (K := K) rfl rfl) (by rfl) TX.b_sum (by decide +kernel) (pa_cons (pv 4) pa_nil))) pe_int) pa_nil)) (blkOk_by (own := [("_law_merge", 5)]) (N := N_L_all) (sc := defScope s_L_all) (by decide +kernel)) (fun _ _ _ _ _ => (pg_name (i := 5) sc_L_all.nd rfl (Or.inl rfl))) (fun _ _ _ _ _ => pts_nil) (fun _ _ _ _ _ => (pe_op (k_catT (K := K) rfl) (pv 4) (pe_tup (pa_cons (pv 5) pa_nil))))) pa_nil)))))
        (pss_one (ps_set (i := 1) sc_L_all.nd rfl (.inl rfl) (pv 3))))))
      (pss_one (ps_ret (pv 1))))), ?_⟩
    refine ⟨sz60 (by simp), fun e0 n0 => ⟨sz60 (by simp), fun f0 nf0 => ?_⟩⟩
    have s0 := (same_upd (o := .tup []) n0).trans (same_upd (o := .lst [V.ref e0]) nf0)
    refine ⟨_, rfl, _, rfl, by omega, by omega, ?_⟩
    rw [show ((n : Int)).toNat = n by omega]
    refine for_range (lo := 0) (n := n) (fun i σ H' => ∃ f xs y2 y3 y4 y5, σ = [some (.int (n : Int)), some (.ref f), y2, y3, y4, y5] ∧ Same H H' ∧ H' f = some (.lst xs) ∧ DpAll K H' xs ((allS i).map dSch)) ⟨f0, [V.ref e0], none, none, none, none, rfl, s0, upd_same, .cons (.tup (Same.tup (same_upd nf0) (.inl (.inl upd_same))) .nil) .nil⟩ ?_ ?_
    · rintro i σ H1 hi ⟨f, xs, y2, y3, y4, y5, rfl, s1, hf, hA⟩
      have hi' : i < n := hi
      have ei : (0 : Int) + (i : Nat) = (i : Int) := by omega
      rw [ei]
      refine ⟨sz60 (by simp), fun L nL => ?_⟩
      have hxl := DpAll.len hA
      rw [List.length_map] at hxl
      refine ⟨.ref f, rfl, f, rfl, ⟨_, .inl (.inl (same_upd nL _ _ hf))⟩, for_it (walk_list (K := K) (xs := xs)) (fun j σ H' => ∃ y4 y5, σ = [some (.int (n : Int)), some (.ref f), some (.int (i : Int)), some (.ref L), y4, y5] ∧ Same H1 H' ∧ ∃ acc, H' L = some (.lst acc) ∧ DpAll K H' acc (((allS i).take j).flatMap dNext)) ⟨_, _, rfl, same_upd nL, [], upd_same, .nil⟩ (fun j σ H' _ ⟨_, _, _, h, _⟩ => .inl (.inl (h _ _ hf))) ?_ ?_⟩
      · rintro j x σ H2 H2' hj ⟨y4, y5, rfl, s2, acc, hL, hAcc⟩ ⟨rfl, hx⟩
        rw [hxl] at hj
        have ht : (allS i)[j]? = some (allS i)[j] := List.getElem?_eq_getElem hj
        generalize (allS i)[j] = t at ht
        have hz := allS_size i t (List.mem_of_getElem? ht)
        obtain ⟨v, g1, g2⟩ := DpAll.get hA (show ((allS i).map dSch)[j]? = some (dSch t) by rw [List.getElem?_map, ht]; rfl)
        rw [hx] at g1
        cases g1
        obtain ⟨b, rfl, g3⟩ := Dp.intsInv g2
        have g3' := Same.tup s2 g3
        have e1 : ((i : Int) - (ci t.sch).sum + 1) = ((t.runs + 1 : Nat) : Int) := by
          have := T.sum_sch t
          rw [ciSum]; omega
        have hrl := T.runs_le t
        refine ⟨.ref L, rfl, .inl ⟨rfl, _, .inl (.inl hL)⟩, _, rfl, .ref b, rfl, b, _, rfl, g3', _, _, rfl, rfl, _, _, rfl, rfl, _, rfl, ?_, ?_, fun D nD => ?_⟩
        · rw [e1]; omega
        · rw [e1]; omega
        rw [e1, Int.toNat_natCast]
        refine lc_all (K := K) walk_range (dNext t) (by rw [dNext, List.length_map, List.length_range]) (tf_next t) (by omega) nD (fun _ _ => trivial) ?_ ?_ (fun x σ' H' Q Q' h => h _ _) (fun σ' H' Q Q' h => h _ _)
        · rintro m x Hx Hx' hm sx hy d hd R hR
          obtain ⟨rfl, rfl⟩ := hy
          have ed : d = dSch (t.push m) := by
            rw [dNext, List.getElem?_map, List.getElem?_range hm] at hd
            exact (Option.some.inj hd).symm
          subst ed
          have em : (0 : Int) + (m : Nat) = (m : Int) := by omega
          show gName 5 (V.int ((0 : Int) + (m : Nat))) _ _ _
          rw [em]
          refine ⟨rfl, rfl, .ref b, rfl, _, rfl, sz60 (by simp), fun o no => ?_⟩
          have so := same_upd (o := .tup [V.int (m : Int)]) no
          refine cat_read (Same.tup (sx.trans so) g3') (.inl (.inl upd_same)) (by simp [ci, T.sch_len]; omega) fun o2 H4 s4 h4 => hR _ _ (so.trans s4) (dp_tup (ns := ci (t.push m).sch) ?_)
          rw [T.push_sch t m (by omega)]
          have e2 : ((ci (t.sch ++ [m])).map V.int) = (ci t.sch).map V.int ++ [V.int (m : Int)] := by simp [ci]
          rw [e2]; exact h4
        intro H3 acc3 s3 hD3 hA3
        have hal := DpAll.len hAcc
        have hal3 := DpAll.len hA3
        have hle : acc.length + acc3.length ≤ 1430 := by
          rw [hal, hal3, ← List.length_append, ← flat_take ht]
          refine Nat.le_trans (flat_le _ _) ?_
          rw [dNext_all, List.length_map]
          exact allS_len (by omega)
        refine ⟨L, D, acc, acc3, rfl, rfl, s3 _ _ hL, hD3, sz60 (by omega), ?_⟩
        refine ⟨_, _, rfl, Same.mut (s2.trans s3) nL, _, upd_same, ?_⟩
        rw [flat_take ht]
        exact DpAll.append (DpAll.keep (But.keep But.upd (s3 _ _ hL)) (tf_nexts _) (DpAll.same s3 hAcc)) (DpAll.keep (But.keep But.upd (s3 _ _ hL)) (tf_next t) hA3)
      · rintro σ H2 ⟨y4, y5, rfl, s2, acc, hL, hAcc⟩
        refine ⟨.ref L, rfl, L, acc, _, _, _, _, rfl, s1.trans s2, hL, ?_⟩
        rw [hxl, List.take_of_length_le (Nat.le_refl _), dNext_all] at hAcc
        exact hAcc
    · rintro σ H1 ⟨f, xs, y2, y3, y4, y5, rfl, s1, hf, hA⟩
      exact ⟨.ref f, rfl, q _ _ _ s1 hf hA⟩
end
theorem dpBoolsInv {K : PySem.W.Frag} {H : Hp} : ∀ {vs : List V} {bs : List Bool}, DpAll K H vs (bs.map PyData.bool) → vs = bs.map V.bl
  | _, [], .nil => rfl
  | _, _ :: _, .cons a b => by
    cases a
    rw [dpBoolsInv b]; rfl
def wiB (k c : Nat) (t : T) : Bool := (t.rc.all fun x => decide (x ≤ k)) && (t.wr.all fun x => decide (x ≤ c))
theorem wiB_iff {k c : Nat} {t : T} : wiB k c t = true ↔ Wi t k c := by
  unfold wiB
  rw [Bool.and_eq_true, List.all_eq_true, List.all_eq_true]
  constructor
  · rintro ⟨h1, h2⟩
    exact wi_of (fun x hx => of_decide_eq_true (h1 x hx)) fun x hx => of_decide_eq_true (h2 x hx)
  · intro h
    obtain ⟨h1, h2⟩ := wi_rc h
    exact ⟨fun x hx => decide_eq_true (h1 x hx), fun x hx => decide_eq_true (h2 x hx)⟩
section
variable {P : Program} {w : World} {K : PySem.W.Frag} {mg : Str → Option Value} {base : Heap}
def sp_L_within (K : PySem.W.Frag) : Sp := fun vs H Q _ => ∃ (a : Addr) (t : T) (k c : Nat), vs = [.ref a, .int (k : Int), .int (c : Int)] ∧ SqT K H a (vi t.sch) ∧ t.size ≤ 60 ∧ ∀ H', Same H H' → Q (.bl (wiB k c t)) H'
theorem ok_L_within (TX : Tx K mg) : FnOk P w K mg base CX0 3 TX.a_L_within TX.fd_L_within ["_law_plan", "_law_most_runs", "_law_most_writes"] (sp_L_within K) := by
  refine TX.f_L_within.ok sc_L_within (fun vs H Q E h => ?_) (fun cdv A outer s H vs Q E hr h => ?_)
  · obtain ⟨a, t, k, c, rfl, _⟩ := h; rfl
  · obtain ⟨a, t, k, c, rfl, hS, hz, q⟩ := h
    refine ⟨_, (pss_cons (ps_if (pt_val (pe_callB (id := "any") (cr_any rfl) (by rfl) TX.b_any (by decide +kernel) (pa_cons (pe_lc (own := [("_law_piles", 3)]) (by rfl) sc_L_within.nd (k_piL (K := K) rfl (pe_call (ok_L_piles TX) (hr.mono (by decide)) (by rfl) TX.g_L_piles TX.f_L_piles.kp TX.bd_L_piles .nil pass0 (pa_cons (pv 0) pa_nil))) (blkOk_by (own := [("_law_piles", 3)]) (N := N_L_within) (sc := defScope s_L_within) (by decide +kernel)) (fun _ _ _ _ _ => (pg_name (i := 3) sc_L_within.nd rfl (Or.inl rfl))) (fun _ _ _ _ _ => pts_nil) (fun _ _ _ _ _ => (pe_cmpR op_gt (pe_callB (id := "len") (k_len (K := K) rfl) (by rfl) TX.b_len (by decide +kernel) (pa_cons (pv 3) pa_nil)) (pv 1) (nomark _)))) pa_nil)))
        (pss_one (ps_ret pe_bl))
        pss_nil)
      (pss_one (ps_ret (pe_callB (id := "all") (cr_all rfl) (by rfl) TX.b_all (by decide +kernel) (pa_cons (pe_lc (own := [("_law_often", 4)]) (by rfl) sc_L_within.nd (k_piL (K := K) rfl (pe_call (ok_L_written TX) (hr.mono (by decide)) (by rfl) TX.g_L_written TX.f_L_written.kp TX.bd_L_written .nil pass0 (pa_cons (pv 0) pa_nil))) (blkOk_by (own := [("_law_often", 4)]) (N := N_L_within) (sc := defScope s_L_within) (by decide +kernel)) (fun _ _ _ _ _ => (pg_name (i := 4) sc_L_within.nd rfl (Or.inl rfl))) (fun _ _ _ _ _ => pts_nil) (fun _ _ _ _ _ => (pe_cmpR op_le (pv 4) (pv 2) (nomark _)))) pa_nil))))), ?_⟩
    refine ⟨.ref a, rfl, a, t, rfl, hS, hz, fun H1 G p s1 sG dis hD => ?_⟩
    obtain ⟨p', xs, e, hX, hA⟩ := Dp.lstInv hD
    cases e
    have hxl := DpAll.len hA
    rw [dPils_len] at hxl
    refine ⟨p, rfl, ⟨_, sG.seq hX⟩, fun D nD => ?_⟩
    refine lc_all (K := K) (walk_list (K := K) (a := p) (xs := xs)) ((t.rc.map fun x => decide (k < x)).map PyData.bool) (by rw [List.length_map, List.length_map, T.rc_len, hxl]) (fun d h => by obtain ⟨b, _, rfl⟩ := List.mem_map.mp h; exact .bl b) (by omega) nD (fun H' s' => (sG.trans s').seq hX) ?_ ?_ (fun x σ' H' Q Q' h => h _ _) (fun σ' H' Q Q' h => h _ _)
    · rintro i x Hx Hx' hi sx ⟨rfl, hx⟩ d hd R hR
      have hi2 : i < t.size := by omega
      rw [List.getElem?_map, List.getElem?_map, pre_runs hi2] at hd
      cases hd
      obtain ⟨v, g1, g2⟩ := DpAll.get hA (dPils_at hi2)
      rw [hx] at g1
      cases g1
      obtain ⟨b, us, rfl, g3, g4⟩ := Dp.lstInv g2
      have hul := DpAll.len g4
      rw [List.length_map, T.stk_len] at hul
      refine ⟨rfl, rfl, .ref b, rfl, b, us, rfl, .inl ((sG.trans sx).seq g3), _, rfl, _, _, rfl, rfl, ?_⟩
      dsimp only
      rw [hul, show decide ((k : Int) < (((pre t (i + 1)).runs : Nat) : Int)) = decide (k < (pre t (i + 1)).runs) from by simp]
      exact hR _ _ (Same.refl _) (.bl _)
    intro H3 acc s3 hD3 hA3
    rw [dpBoolsInv hA3] at hD3
    refine ⟨D, t.rc.map fun x => decide (k < x), rfl, .inl (.inl hD3), _, rfl, ?_⟩
    have s03 := s1.trans s3
    by_cases h1 : ((t.rc.map fun x => decide (k < x)).any id) = true
    · rw [h1]
      refine iteT ?_
      have hf : wiB k c t = false := by
        obtain ⟨b, hb, e⟩ := List.any_eq_true.mp h1
        obtain ⟨x, hx, rfl⟩ := List.mem_map.mp hb
        have e' : k < x := of_decide_eq_true e
        cases hc : wiB k c t with
        | false => rfl
        | true => exact absurd ((wi_rc (wiB_iff.mp hc)).1 x hx) (by omega)
      rw [hf] at q
      exact q _ s03
    rw [show ((t.rc.map fun x => decide (k < x)).any id) = false by simpa using h1]
    refine iteF ?_
    refine ⟨.ref a, rfl, a, t, rfl, Same.tup s03 hS, hz, fun H4 p4 s4 n4 h4 => ?_⟩
    refine ⟨p4, rfl, ⟨_, .inl (.inl h4)⟩, fun D2 nD2 => ?_⟩
    have hwl : (vi t.wr).length = t.size := by rw [vi_len, T.wr_len]
    refine lc_all (K := K) (walk_list (K := K) (a := p4) (xs := vi t.wr)) ((t.wr.map fun x => decide (x ≤ c)).map PyData.bool) (by rw [List.length_map, List.length_map, T.wr_len, hwl]) (fun d h => by obtain ⟨b, _, rfl⟩ := List.mem_map.mp h; exact .bl b) (by omega) nD2 (fun H' s' => .inl (.inl (s' _ _ h4))) ?_ ?_ (fun x σ' H' Q Q' h => h _ _) (fun σ' H' Q Q' h => h _ _)
    · rintro i x Hx Hx' hi sx ⟨rfl, hx⟩ d hd R hR
      have hi2 : i < t.size := by omega
      have hil : i < t.wr.length := by rw [T.wr_len]; exact hi2
      have hg : t.wr[i]? = some t.wr[i] := List.getElem?_eq_getElem hil
      rw [List.getElem?_map, List.getElem?_map, hg] at hd
      cases hd
      rw [vi_get hg] at hx
      cases hx
      refine ⟨rfl, rfl, _, rfl, _, rfl, _, _, rfl, rfl, ?_⟩
      dsimp only
      rw [show decide (((t.wr[i] : Nat) : Int) ≤ (c : Int)) = decide (t.wr[i] ≤ c) from by simp]
      exact hR _ _ (Same.refl _) (.bl _)
    intro H5 acc5 s5 hD5 hA5
    rw [dpBoolsInv hA5] at hD5
    refine ⟨D2, t.wr.map fun x => decide (x ≤ c), rfl, .inl (.inl hD5), ?_⟩
    have e : ((t.wr.map fun x => decide (x ≤ c)).all id) = wiB k c t := by
      unfold wiB
      have e1 : (t.rc.all fun x => decide (x ≤ k)) = true := by
        rw [List.all_eq_true]
        intro x hx
        have h2 : ¬ k < x := fun hlt => h1 (List.any_eq_true.mpr ⟨true, List.mem_map.mpr ⟨x, hx, decide_eq_true hlt⟩, rfl⟩)
        exact decide_eq_true (by omega)
      rw [e1, Bool.true_and, List.all_map]
      rfl
    rw [e]
    exact q _ (s03.trans (s4.trans s5))
def spq_key (n : Nat) (K : PySem.W.Frag) : Sp := fun vs H Q _ => ∃ (a : Addr) (t : T), vs = [.ref a] ∧ SqT K H a (vi t.sch) ∧ t.size < n ∧ t.size ≤ 60 ∧ ∀ H' p, Same H H' → Dp K H' (.ref p) (dKey t) → Q (.ref p) H'
theorem ok_key (TX : Tx K mg) : ∀ n : Nat, FnOk P w K mg base CX0 (2 + n) TX.a_L_key TX.fd_L_key ["_law_plan"] (spq_key n K)
  | 0 => ⟨fun vs H Q E h => by obtain ⟨_, t, _, _, h, _⟩ := h; omega, fun A outer s H args us vs Q E _ _ _ _ h => by obtain ⟨_, t, _, _, h, _⟩ := h; omega⟩
  | n + 1 => by
    have ih := ok_key TX n
    refine TX.f_L_key.ok (k := 2 + n) sc_L_key (fun vs H Q E h => ?_) (fun cdv A outer s H vs Q E hr h => ?_)
    · obtain ⟨a, t, rfl, _⟩ := h; rfl
    · obtain ⟨a, t, rfl, hS, hn, hz, q⟩ := h
      refine ⟨_, (pss_cons (ps_if (pt_cmpR (op_eqD hr.units) (pv 0) (pe_tup pa_nil) (nomark _))
        (pss_one (ps_ret (pe_tup pa_nil)))
        pss_nil)
      (pss_cons (ps_set (i := 1) sc_L_key.nd rfl (.inl rfl) (pe_call (ok_L_root TX) (hr.mono (by omega)) (by rfl) TX.g_L_root TX.f_L_root.kp TX.bd_L_root .nil pass0 (pa_cons (pv 0) pa_nil)))
      (pss_one (ps_ret (pe_tup (pa_cons (pv 1) (pa_cons (pe_call ih (hr.mono (by omega)) (by rfl) TX.g_L_key TX.f_L_key.kp TX.bd_L_key .nil pass0 (pa_cons (pe_slice (k_slT (K := K) rfl) (pv 0) po_none (po_some (pv 1))) pa_nil)) (pa_cons (pe_call ih (hr.mono (by omega)) (by rfl) TX.g_L_key TX.f_L_key.kp TX.bd_L_key .nil pass0 (pa_cons (pe_slice (k_slT (K := K) rfl) (pv 0) (po_some (pe_op op_add (pv 1) pe_int)) po_none) pa_nil)) pa_nil)))))))), ?_⟩
      refine ⟨.ref a, rfl, sz60 (by simp), fun e ne => ?_⟩
      have s0 := same_upd (o := .tup []) ne
      have hS0 := Same.tup s0 hS
      have hE : SqT K (upd H e (.tup [])) e (([] : List Int).map V.int) := .inl (.inl upd_same)
      cases t with
      | nil =>
        refine eq_data (d := .tuple (([] : List Int).map PyData.int)) (k := 1) (dp_tup hS0) (dp_tup hE) (Sh.tup (k := 0) (Sh.ints _)) (by decide) ⟨_, rfl, iteT ?_⟩
        exact ⟨sz60 (by simp), fun p np => q _ p (s0.trans (same_upd np)) (.tup (.inl (.inl upd_same)) .nil)⟩
      | node l r =>
        have hs1 : Sh 1 (.tuple ((ci (T.node l r).sch).map PyData.int)) := Sh.tup (k := 0) (Sh.ints _)
        have hs2 : Sh 1 (.tuple (([] : List Int).map PyData.int)) := Sh.tup (k := 0) (Sh.ints _)
        refine ⟨.tuple ((ci (T.node l r).sch).map PyData.int), .tuple (([] : List Int).map PyData.int), dp_tup (by rw [← vi_ci]; exact hS0), dp_tup hE, hs1.shaped (by decide), hs2.shaped (by decide), _, rfl, ?_⟩
        have hne : PyData.eqv (.tuple ((ci (T.node l r).sch).map PyData.int)) (.tuple (([] : List Int).map PyData.int)) = false := by
          cases hc : ci (T.node l r).sch with
          | nil =>
            have := congrArg List.length hc
            simp [ci, T.sch_len, T.size] at this
          | cons x xs => simp [PyData.eqv, PyData.eqvAll]
        refine iteB0 hne ?_
        have hzn : (T.node l r).size = l.size + 1 + r.size := rfl
        have lp : (vi (T.node l r).sch).length = l.size + 1 + r.size := by rw [vi_len, T.sch_len, hzn]
        have l1 : (vi l.sch).length = l.size := by rw [vi_len, T.sch_len]
        have e1 : vi (T.node l r).sch = vi l.sch ++ (V.int (l.runs : Int) :: vi r.sch) := by simp [T.sch, vi]
        refine ⟨.ref a, rfl, a, l, r, rfl, hS0, hz, fun H1 s1 => ?_⟩
        have hS1 := Same.tup s1 hS0
        refine ⟨_, rfl, .ref a, rfl, ?_⟩
        dsimp only [tNoPart]
        refine ⟨_, rfl, _, rfl, sl_read hS1 fun c1 H2 s2 hc1 => ?_⟩
        rw [cut_to (by rw [lp]; omega), e1, List.take_left' l1] at hc1
        refine ⟨c1, l, rfl, hc1, by omega, by omega, fun H3 k1 s3 h1 => ?_⟩
        have s03 := ((s0.trans s1).trans s2).trans s3
        refine ⟨.ref a, rfl, _, rfl, _, _, rfl, rfl, _, rfl, ?_⟩
        dsimp only [tNoPart]
        refine sl_read (Same.tup s03 hS) fun c2 H6 s6 hc2 => ?_
        have ec : ((l.size : Int) + 1) = ((l.size + 1 : Nat) : Int) := by omega
        rw [ec, cut_from (by rw [lp]; omega), e1, List.drop_append, List.drop_eq_nil_of_le (by rw [l1]; omega), l1, show l.size + 1 - l.size = 1 by omega] at hc2
        have hc2' : SqT K H6 c2 (vi r.sch) := hc2
        refine ⟨c2, r, rfl, hc2', by omega, by omega, fun H7 k2 s7 h2 => ⟨sz60 (by simp), fun p np => ?_⟩⟩
        have s8 := same_upd (o := .tup [V.int (l.size : Int), V.ref k1, V.ref k2]) np
        exact q _ p ((s03.trans (s6.trans s7)).trans s8) (.tup (.inl (.inl upd_same)) (.cons (.int _) (.cons (Dp.same (s6.trans (s7.trans s8)) h1) (.cons (Dp.same s8 h2) .nil))))
theorem ok_L_key (TX : Tx K mg) : FnOk P w K mg base CX0 63 TX.a_L_key TX.fd_L_key ["_law_plan"] (spq_key 61 K) := ok_key TX 61
end
/-! ### the schedules within budgets, sorted by the key: in the order of their places -/
theorem range_of : ∀ (l : List Nat) (a : Nat), (∀ x, x ∈ l → a ≤ x ∧ x < a + l.length) → l.Pairwise (· < ·) → l = List.range' a l.length
  | [], _, _, _ => rfl
  | x :: r, a, h, hp => by
    obtain ⟨h1, h2⟩ := List.pairwise_cons.mp hp
    have hx := h x (.head _)
    have ih := range_of r (a + 1) (fun y hy => ⟨by have := h1 y hy; omega, by have := (h y (.tail _ hy)).2; rw [List.length_cons] at this; omega⟩) h2
    have hxa : x = a := by
      cases hr : r with
      | nil =>
        have := hx.2
        rw [hr] at this
        simp only [List.length_cons, List.length_nil] at this
        omega
      | cons y r' =>
        rw [hr] at ih
        simp only [List.length_cons, List.range'_succ, List.cons.injEq] at ih
        have := h1 y (by rw [hr]; exact .head _)
        omega
    rw [List.length_cons, List.range'_succ, ← ih, hxa]
theorem inside_len : ∀ n, n < 7 → ∀ k, k < 8 → ∀ c, c < 8 → ((allS n).filter (wiB k c)).length = nB k c n := by decide +kernel
theorem all_nodup : ∀ n, n < 7 → ((allS n).map T.sch).Nodup := by decide +kernel
theorem insT_nodup {n k c : Nat} (hn : n < 7) : ((allS n).filter (wiB k c)).Nodup := by
  have h := all_nodup n hn
  rw [List.Nodup, List.pairwise_map] at h
  exact List.Pairwise.filter _ (h.imp fun hne e => hne (by rw [e]))
/-- the trees within the budgets in the order of their keys -/
def insT (n k c : Nat) : List T := ((allS n).filter (wiB k c)).mergeSort (PySem.W.dataLe false dKey)
theorem insT_mem {n k c : Nat} {t : T} (h : t ∈ insT n k c) : t.size = n ∧ Wi t k c := by
  have h1 := (List.mergeSort_perm _ _).mem_iff.mp h
  obtain ⟨h2, h3⟩ := List.mem_filter.mp h1
  exact ⟨allS_size _ _ h2, wiB_iff.mp h3⟩
theorem insT_len {n k c : Nat} (hn : n < 7) (hk : k < 8) (hc : c < 8) : (insT n k c).length = nB k c n := by
  rw [insT, List.length_mergeSort]; exact inside_len n hn k hk c hc
theorem dataLe_total : PySem.W.TotalLe (PySem.W.dataLe false dKey) := PySem.W.sortLe_total _ _ _
theorem insT_places {n k c : Nat} (hn : n < 7) (hk : k < 8) (hc : c < 8) : (insT n k c).map (fun t => plc t k c) = List.range (nB k c n) := by
  have hl := insT_len hn hk hc
  have hnd : (insT n k c).Nodup := (List.mergeSort_perm _ _).nodup_iff.mpr (insT_nodup hn)
  have hs : (insT n k c).Pairwise (fun a b => PySem.W.dataLe false dKey a b = true) := PySem.W.sort_pairwise dataLe_total _
  have hp : ((insT n k c).map (fun t => plc t k c)).Pairwise (· < ·) := by
    rw [List.pairwise_map]
    have both := List.Pairwise.and hs hnd
    refine List.Pairwise.imp_of_mem (fun {x y} hx hy h => ?_) both
    obtain ⟨sx, wx⟩ := insT_mem hx
    obtain ⟨sy, wy⟩ := insT_mem hy
    rcases Nat.lt_trichotomy (plc x k c) (plc y k c) with g | g | g
    · exact g
    · exact absurd (plc_inj (sx.trans sy.symm) wx wy g) h.2
    · have := key_lt (sy.trans sx.symm) wy wx g
      have h1 : (!PySem.W.dataLt (dKey y) (dKey x)) = true := h.1
      rw [this] at h1
      cases h1
  have := range_of _ 0 (fun x hx => by
    obtain ⟨t, ht, rfl⟩ := List.mem_map.mp hx
    obtain ⟨st, wt⟩ := insT_mem ht
    have := plc_lt wt
    rw [List.length_map, hl, ← st]
    exact ⟨Nat.zero_le _, by omega⟩) hp
  rw [this, List.length_map, hl, List.range_eq_range']
theorem insT_at {n k c i : Nat} {t : T} (hn : n < 7) (hk : k < 8) (hc : c < 8) (h : (insT n k c)[i]? = some t) : plc t k c = i ∧ t.size = n ∧ Wi t k c ∧ i < nB k c n := by
  obtain ⟨h1, h2⟩ := insT_mem (List.mem_of_getElem? h)
  have e := congrArg (fun l => l[i]?) (insT_places hn hk hc)
  simp only [List.getElem?_map, h] at e
  have hi : i < nB k c n := by
    have := (List.getElem?_eq_some_iff.mp h).1
    rw [insT_len hn hk hc] at this; exact this
  rw [List.getElem?_range hi] at e
  exact ⟨Option.some.inj e, h1, h2, hi⟩
/-- sorting pairs by the keys of their trees -/
theorem sort_pairs (us : List V) (L : List T) (h : us.length = L.length) : (((us.zip L).map fun p => (p.1, dKey p.2)).mergeSort (PySem.W.dataLe false Prod.snd)) = ((us.zip L).mergeSort (PySem.W.dataLe false fun p : V × T => dKey p.2)).map (fun p => (p.1, dKey p.2)) ∧
    ((us.zip L).mergeSort (PySem.W.dataLe false fun p : V × T => dKey p.2)).map Prod.snd = L.mergeSort (PySem.W.dataLe false dKey) := by
  refine ⟨(PySem.W.sort_maps (fun p : V × T => (p.1, dKey p.2)) fun a _ b _ => rfl).symm, ?_⟩
  have h2 := PySem.W.sort_maps (r := PySem.W.dataLe false fun p : V × T => dKey p.2) (s := PySem.W.dataLe false dKey) (Prod.snd : V × T → T) (l := us.zip L) fun a _ b _ => rfl
  rw [h2, List.map_snd_zip (Nat.le_of_eq h.symm)]
section
variable {P : Program} {w : World} {K : PySem.W.Frag} {mg : Str → Option Value} {base : Heap}
theorem ok_counts_within (TX : Tx K mg) : FnOk P w K mg base CX0 2 TX.a_counts_within TX.fd_counts_within ["n", "k", "c"] (sp_counts_withinN K P w) := ok_counts_withinN TX
theorem ok_schedule_in_place (TX : Tx K mg) : FnOk P w K mg base CX0 62 TX.a_schedule_in_place TX.fd_schedule_in_place ["n", "b", "a", "place", "counts"] (sp_schedule_in_placeN K P w) := ok_schedule_in_placeN TX
def sp_check_flushes (K : PySem.W.Frag) : Sp := fun vs H Q _ => ∃ n : Nat, vs = [.int (n : Int)] ∧ n ≤ 60 ∧ Q .non H
theorem ok_check_flushes (TX : Tx K mg) : FnOk P w K mg base (L2.CX P w) 4 TX.a_check_flushes TX.fd_check_flushes ["n"] (sp_check_flushes K) := by
  refine TX.f_check_flushes.okX sc_check_flushes (fun vs H Q E h => ?_) (fun cdv A outer s H vs Q E hr h => ?_)
  · obtain ⟨n, rfl, _⟩ := h; rfl
  · obtain ⟨n, rfl, hn, q⟩ := h
    refine ⟨_, (pss_one (ps_if (pt_not (pt_val (pe_call (ok_is_count_up_to TX) (hr.mono (by decide)) (by rfl) TX.g_is_count_up_to TX.f_is_count_up_to.kp TX.bd_is_count_up_to .nil pass0 (pa_cons (pv 0) (pa_cons (pe_glob (v := .int (60)) (by rfl) TX.c_MOST_FLUSHES ⟨_, rfl⟩) pa_nil)))))
        (pss_one (ps_raise rfl takesX (pmk_oex TX.ox_InvalidCount TX.ic_InvalidCount TX.ti_InvalidCount (ok_init_InvalidCount TX) (hr.mono (by decide)) TX.bi_InvalidCount .nil pass0 (by rfl) TX.gc_InvalidCount (pa_cons (pv 0) pa_nil))))
        pss_nil)), ?_⟩
    refine ⟨_, rfl, .int (n : Int), 60, rfl, .inl ⟨(n : Int), rfl, true, by rw [decide_eq_true (by omega), decide_eq_true (by omega)]; rfl, iteF q⟩⟩
def sp_schedule_within (TX : Tx K mg) : Sp := fun vs H Q E => ∃ (n k c ix : Nat), vs = [.int (n : Int), .int (k : Int), .int (c : Int), .int (ix : Int)] ∧ n ≤ 60 ∧ k ≤ 60 ∧ c ≤ 60 ∧ nB k c n ≤ ix ∧ ∀ dd H', Same H H' → H' dd = some (.xd [("value", .int (ix : Int))]) → E (.ref TX.c_InvalidIndex) (some dd) H'
theorem ok_schedule_within (TX : Tx K mg) : FnOk P w K mg base (L2.CX P w) 63 TX.a_schedule_within TX.fd_schedule_within ["n", "k", "c", "index"] (sp_schedule_within TX) := by
  refine TX.f_schedule_within.okX sc_schedule_within (fun vs H Q E h => ?_) (fun cdv A outer s H vs Q E hr h => ?_)
  · obtain ⟨n, k, c, ix, rfl, _⟩ := h; rfl
  · obtain ⟨n, k, c, ix, rfl, hn, hk, hc, hix, q⟩ := h
    refine ⟨_, (pss_cons (ps_expr (pe_call (ok_check_flushes TX) (hr.mono (by decide)) (by rfl) TX.g_check_flushes TX.f_check_flushes.kp TX.bd_check_flushes .nil passX (pa_cons (pv 0) pa_nil)))
      (pss_cons (ps_expr (pe_call (ok_check_budgets TX) (hr.mono (by decide)) (by rfl) TX.g_check_budgets TX.f_check_budgets.kp TX.bd_check_budgets .nil passX (pa_cons (pv 1) (pa_cons (pv 2) (pa_cons (pe_glob (v := .int (60)) (by rfl) TX.c_MOST_BUDGET ⟨_, rfl⟩) pa_nil)))))
      (pss_cons (ps_set (i := 4) sc_schedule_within.nd rfl (.inl rfl) (pe_call (ok_counts_within TX) (hr.mono (by decide)) (by rfl) TX.g_counts_within TX.f_counts_within.kp TX.bd_counts_within .nil pass0 (pa_cons (pv 0) (pa_cons (pv 1) (pa_cons (pv 2) pa_nil)))))
      (pss_cons (ps_if (pt_not (pt_val (pe_call (ok_is_count_up_to TX) (hr.mono (by decide)) (by rfl) TX.g_is_count_up_to TX.f_is_count_up_to.kp TX.bd_is_count_up_to .nil pass0 (pa_cons (pv 3) (pa_cons (pe_op op_sub (pe_ix (k_ixL (K := K) rfl) (pe_nget (K := K) (P := P) (w := w) rfl rfl rfl (hu_of hr) (pv 4) (pe_tup (pa_cons (pv 1) (pa_cons (pv 2) pa_nil))) (fun _ _ => rfl)) (pv 0) (fun _ _ => rfl)) pe_int) pa_nil)))))
        (pss_one (ps_raise rfl takesX (pmk_oex TX.ox_InvalidIndex TX.ic_InvalidIndex TX.ti_InvalidIndex (ok_init_InvalidIndex TX) (hr.mono (by decide)) TX.bi_InvalidIndex .nil pass0 (by rfl) TX.gc_InvalidIndex (pa_cons (pv 3) pa_nil))))
        pss_nil)
      (pss_one (ps_ret (pe_callK (ok_schedule_in_place TX) (hr.mono (by decide)) (by rfl) TX.g_schedule_in_place TX.f_schedule_in_place.kp TX.kc_schedule_in_place_b_a_place_counts pass0 (pa_cons (pv 0) pa_nil) (pk_cons (pv 1) (pk_cons (pv 2) (pk_cons (pv 3) (pk_cons (pv 4) pk_nil))))))))))), ?_⟩
    have hT0 : cwT n k c k c = some (cwL k c n) := by
      unfold cwT
      rw [if_pos (by omega)]
      congr 2; omega
    refine ⟨_, rfl, n, rfl, hn, _, rfl, _, rfl, _, _, _, rfl, .inl ⟨⟨(k : Int), rfl, by omega, by omega⟩, ⟨(c : Int), rfl, by omega, by omega⟩, fun H1 s1 => ?_⟩⟩
    refine ⟨_, rfl, _, rfl, _, rfl, n, k, c, rfl, hn, hk, hc, fun H2 d s2 hT => ?_⟩
    refine ⟨_, rfl, .ref d, rfl, _, rfl, _, rfl, sz60 (by simp), fun t1 n1 => ?_⟩
    have z1 := same_upd (o := .tup [V.int (k : Int), V.int (c : Int)]) n1
    obtain ⟨kvs1, d1, g1, g2, g3⟩ := (hT.same z1).at hT0
    refine ⟨d, t1, kvs1, [(k : Int), (c : Int)], .ref d1, rfl, rfl, g1, .inl (.inl upd_same), g2, _, rfl, ?_⟩
    refine ⟨d1, _, _, _, rfl, rfl, .inl (.inl g3), at_vi (cwL_get (Nat.le_refl n)), _, _, rfl, rfl, ?_⟩
    refine ⟨.int (ix : Int), ((nB k c n : Nat) : Int) - 1, rfl, .inl ⟨(ix : Int), rfl, false, by rw [decide_eq_false (show ¬ (ix : Int) ≤ ((nB k c n : Nat) : Int) - 1 by omega), Bool.and_false], iteT ?_⟩⟩
    refine raise_read (K := K) ⟨_, rfl, _, rfl, fun d H2 s3 _ hd => q d H2 (s1.trans (s2.trans (z1.trans s3))) hd⟩ fun R R' h z => ?_
    obtain ⟨v, e1, z⟩ := z
    exact ⟨v, e1, h _ _ z⟩
end
section
variable {P : Program} {w : World} {K : PySem.W.Frag} {mg : Str → Option Value} {base : Heap}
/-- the longest of a row -/
theorem fold_max : ∀ (r : List Int) (m : Int), m ≤ r.foldl max m ∧ (∀ x, x ∈ r → x ≤ r.foldl max m) ∧ (r.foldl max m = m ∨ r.foldl max m ∈ r)
  | [], m => ⟨Int.le_refl _, fun x h => (by cases h), .inl rfl⟩
  | x :: r, m => by
    obtain ⟨h1, h2, h3⟩ := fold_max r (max m x)
    refine ⟨by simp only [List.foldl_cons]; omega, fun y hy => ?_, ?_⟩
    · simp only [List.foldl_cons]
      rcases List.mem_cons.mp hy with rfl | hy
      · omega
      · exact h2 y hy
    · simp only [List.foldl_cons]
      rcases h3 with h3 | h3
      · rw [h3]
        by_cases e : m ≤ x
        · right; rw [Int.max_eq_right e]; exact List.mem_cons_self ..
        · left; rw [Int.max_eq_left (by omega)]
      · exact .inr (List.mem_cons_of_mem _ h3)
theorem max_read {K : PySem.W.Frag} {H : Hp} {a : Addr} {xs : List Nat} {Q : VK} (h : SqT K H a (vi xs)) (q : ∀ i : Nat, (∀ B : Nat, i ≤ B ↔ ∀ x, x ∈ xs → x ≤ B) → Q (.int (i : Int)) H) : rMaxDef K [.ref a] [.int 0] H Q := by
  refine ⟨a, 0, ci xs, rfl, rfl, by rw [← vi_ci]; exact h, fun e => ?_, fun m r e => ?_⟩
  · have hx : xs = [] := by
      cases xs with
      | nil => rfl
      | cons _ _ => cases e
    have := q 0 (fun B => ⟨fun _ x hx' => (by rw [hx] at hx'; cases hx'), fun _ => Nat.zero_le _⟩)
    simpa using this
  · obtain ⟨h1, h2, h3⟩ := fold_max r m
    have hm : ∀ y, y ∈ ci xs ↔ y = m ∨ y ∈ r := fun y => by rw [e]; exact List.mem_cons
    have hmax : ∃ z, z ∈ xs ∧ ((z : Nat) : Int) = r.foldl max m := by
      have : r.foldl max m ∈ ci xs := (hm _).mpr h3
      obtain ⟨z, hz, ez⟩ := List.mem_map.mp this
      exact ⟨z, hz, ez⟩
    obtain ⟨z, hz, ez⟩ := hmax
    rw [← ez]
    refine q z fun B => ⟨fun hB x hx => ?_, fun hB => hB z hz⟩
    have hx' : ((x : Nat) : Int) ∈ ci xs := List.mem_map.mpr ⟨x, hx, rfl⟩
    rcases (hm _).mp hx' with e' | e'
    · omega
    · have := h2 _ e'; omega
theorem ok_is_schedule (TX : Tx K mg) : FnOk P w K mg base CX0 4 TX.a_is_schedule TX.fd_is_schedule ["value"] (sp_is_scheduleN K) := ok_is_scheduleN TX
theorem ok_run_counts (TX : Tx K mg) : FnOk P w K mg base CX0 6 TX.a_run_counts TX.fd_run_counts ["schedule"] (sp_run_countsN K) := ok_run_countsN TX
theorem ok_writes (TX : Tx K mg) : FnOk P w K mg base CX0 6 TX.a_writes TX.fd_writes ["schedule"] (sp_writesN K) := ok_writesN TX
theorem ok_place_of (TX : Tx K mg) : FnOk P w K mg base CX0 62 TX.a_place_of TX.fd_place_of ["schedule", "b", "a", "counts"] (sp_place_ofN K P w) := ok_place_ofN TX
def sp_index_within (TX : Tx K mg) : Sp := fun vs H Q E => ∃ (a : Addr) (t : T) (k c : Nat), vs = [.ref a, .int (k : Int), .int (c : Int)] ∧ SqT K H a (vi t.sch) ∧ t.size ≤ 60 ∧ k ≤ 60 ∧ c ≤ 60 ∧ ¬ Wi t k c ∧ ∀ dd H', Same H H' → H' dd = some (.xd [("value", .ref a)]) → E (.ref TX.c_OutsideBudget) (some dd) H'
theorem ok_index_within (TX : Tx K mg) : FnOk P w K mg base (L2.CX P w) 63 TX.a_index_within TX.fd_index_within ["schedule", "k", "c"] (sp_index_within TX) := by
  refine TX.f_index_within.okX sc_index_within (fun vs H Q E h => ?_) (fun cdv A outer s H vs Q E hr h => ?_)
  · obtain ⟨a, t, k, c, rfl, _⟩ := h; rfl
  · obtain ⟨a, t, k, c, rfl, hS, hz, hk, hc, hnw, q⟩ := h
    refine ⟨_, (pss_cons (ps_if (pt_not (pt_val (pe_call (ok_is_schedule TX) (hr.mono (by decide)) (by rfl) TX.g_is_schedule TX.f_is_schedule.kp TX.bd_is_schedule .nil pass0 (pa_cons (pv 0) pa_nil))))
        (pss_one (ps_raise rfl takesX (pmk_oex TX.ox_InvalidSchedule TX.ic_InvalidSchedule TX.ti_InvalidSchedule (ok_init_InvalidSchedule TX) (hr.mono (by decide)) TX.bi_InvalidSchedule .nil pass0 (by rfl) TX.gc_InvalidSchedule (pa_cons (pv 0) pa_nil))))
        pss_nil)
      (pss_cons (ps_expr (pe_call (ok_check_budgets TX) (hr.mono (by decide)) (by rfl) TX.g_check_budgets TX.f_check_budgets.kp TX.bd_check_budgets .nil passX (pa_cons (pv 1) (pa_cons (pv 2) (pa_cons (pe_glob (v := .int (60)) (by rfl) TX.c_MOST_BUDGET ⟨_, rfl⟩) pa_nil)))))
      (pss_cons (ps_if (PW.pt (pw_or (pt_cmpR op_gt (pe_callBK (id := "max") (cr_maxDef (K := K) rfl rfl hr.units) (by rfl) TX.b_max (by decide +kernel) (pa_cons (pe_call (ok_run_counts TX) (hr.mono (by decide)) (by rfl) TX.g_run_counts TX.f_run_counts.kp TX.bd_run_counts .nil pass0 (pa_cons (pv 0) pa_nil)) pa_nil) (pk_cons pe_int pk_nil)) (pv 1) (nomark _)) (pw_or1 (pt_cmpR op_gt (pe_callBK (id := "max") (cr_maxDef (K := K) rfl rfl hr.units) (by rfl) TX.b_max (by decide +kernel) (pa_cons (pe_call (ok_writes TX) (hr.mono (by decide)) (by rfl) TX.g_writes TX.f_writes.kp TX.bd_writes .nil pass0 (pa_cons (pv 0) pa_nil)) pa_nil) (pk_cons pe_int pk_nil)) (pv 2) (nomark _)))))
        (pss_one (ps_raise rfl takesX (pmk_oex TX.ox_OutsideBudget TX.ic_OutsideBudget TX.ti_OutsideBudget (ok_init_OutsideBudget TX) (hr.mono (by decide)) TX.bi_OutsideBudget .nil pass0 (by rfl) TX.gc_OutsideBudget (pa_cons (pv 0) pa_nil))))
        pss_nil)
      (pss_one (ps_ret (pe_call (ok_place_of TX) (hr.mono (by decide)) (by rfl) TX.g_place_of TX.f_place_of.kp TX.bd_place_of .nil pass0 (pa_cons (pv 0) (pa_cons (pv 1) (pa_cons (pv 2) (pa_cons (pe_call (ok_counts_within TX) (hr.mono (by decide)) (by rfl) TX.g_counts_within TX.f_counts_within.kp TX.bd_counts_within .nil pass0 (pa_cons (pe_callB (id := "len") (k_len (K := K) rfl) (by rfl) TX.b_len (by decide +kernel) (pa_cons (pv 0) pa_nil)) (pa_cons (pv 1) (pa_cons (pv 2) pa_nil)))) pa_nil)))))))))), ?_⟩
    refine ⟨.ref a, rfl, a, t, rfl, hS, hz, true, rfl, iteF ?_⟩
    refine ⟨_, rfl, _, rfl, _, _, _, rfl, .inl ⟨⟨(k : Int), rfl, by omega, by omega⟩, ⟨(c : Int), rfl, by omega, by omega⟩, fun H1 s1 => ?_⟩⟩
    have hS1 := Same.tup s1 hS
    refine ⟨.ref a, rfl, a, t, rfl, hS1, hz, fun H2 p2 s2 h2 => ?_⟩
    dsimp only [tNil, tCons, tC]
    refine max_read h2 fun i hi => ?_
    have s02 := s1.trans s2
    refine ⟨_, rfl, _, _, rfl, rfl, _, rfl, ?_⟩
    by_cases hik : i ≤ k
    rotate_left
    · refine decT (by omega) ?_
      refine iteT (raise_read (K := K) ⟨.ref a, rfl, .ref a, rfl, fun dd H3 s3 _ hd => q dd H3 (s02.trans s3) hd⟩ fun R R' h z => ?_)
      obtain ⟨v, e1, z⟩ := z
      exact ⟨v, e1, h _ _ z⟩
    refine decF (by omega) ?_
    refine ⟨.ref a, rfl, a, t, rfl, Same.tup s02 hS, hz, fun H3 p3 s3 h3 => ?_⟩
    dsimp only [tNil, tCons, tC]
    refine max_read h3 fun j hj => ?_
    have s03 := s02.trans s3
    refine ⟨_, rfl, _, _, rfl, rfl, _, rfl, ?_⟩
    by_cases hjc : j ≤ c
    · exact absurd (wi_of ((hi k).mp hik) ((hj c).mp hjc)) hnw
    refine decT (by omega) (raise_read (K := K) ⟨.ref a, rfl, .ref a, rfl, fun dd H4 s4 _ hd => q dd H4 (s03.trans s4) hd⟩ fun R R' h z => ?_)
    obtain ⟨v, e1, z⟩ := z
    exact ⟨v, e1, h _ _ z⟩
end
structure Sn (k n : Nat) (d : PyData) : Prop where
  dep : d.depth ≤ k
  shw : d.showable = true
  short : d.leavesShort 60 = true
  bulk : d.bulk ≤ n
theorem Sn.mono {k n k' n' : Nat} {d : PyData} (h : Sn k n d) (e : k ≤ k') (e' : n ≤ n') : Sn k' n' d := ⟨Nat.le_trans h.dep e, h.shw, h.short, Nat.le_trans h.bulk e'⟩
theorem Sn.t1 {k n : Nat} {d : PyData} (h : Sn k n d) : Sn (k + 1) (n + 8) (.tuple [d]) := by
  obtain ⟨a, b, c, e⟩ := h
  refine ⟨?_, ?_, ?_, ?_⟩
  · simp [PyData.depth, PyData.depthAll]; omega
  · simp [PyData.showable, PyData.showableAll, b]
  · simp [PyData.leavesShort, PyData.leavesShortAll, c]
  · simp [PyData.bulk, PyData.bulkAll]; omega
theorem Sn.t2 {k n m : Nat} {d e : PyData} (h : Sn k n d) (h' : Sn k m e) : Sn (k + 1) (n + m + 8) (.tuple [d, e]) := by
  obtain ⟨a, b, c, f⟩ := h
  obtain ⟨a', b', c', f'⟩ := h'
  refine ⟨?_, ?_, ?_, ?_⟩
  · simp [PyData.depth, PyData.depthAll]; omega
  · simp [PyData.showable, PyData.showableAll, b, b']
  · simp [PyData.leavesShort, PyData.leavesShortAll, c, c']
  · simp [PyData.bulk, PyData.bulkAll]; omega
theorem Sn.l1 {k n : Nat} {d : PyData} (h : Sn k n d) : Sn (k + 1) (n + 8) (.list [d]) := by
  obtain ⟨a, b, c, e⟩ := h
  refine ⟨?_, ?_, ?_, ?_⟩
  · simp [PyData.depth, PyData.depthAll]; omega
  · simp [PyData.showable, PyData.showableAll, b]
  · simp [PyData.leavesShort, PyData.leavesShortAll, c]
  · simp [PyData.bulk, PyData.bulkAll]; omega
theorem Sn.d1 {k n : Nat} {d : PyData} (h : Sn k n d) : Sn (k + 1) (n + 8) (.dict [(.str "a", d)]) := by
  obtain ⟨a, b, c, e⟩ := h
  have z : (Str.ofString "a").cps.size = 1 := by decide +kernel
  refine ⟨?_, ?_, ?_, ?_⟩
  · simp [PyData.depth, PyData.depthKv]; omega
  · simp [PyData.showable, PyData.showableKv, b]
  · simp only [PyData.leavesShort, PyData.leavesShortKv, c, Bool.and_true]
    decide +kernel
  · simp [PyData.bulk, PyData.bulkKv]; omega
theorem Sn.none {k n : Nat} : Sn k n .none := ⟨by simp [PyData.depth], by simp [PyData.showable], by simp [PyData.leavesShort], by simp [PyData.bulk]⟩
theorem Sn.str {k n : Nat} {x : Str} (h : (PyData.str x).leavesShort 60 = true) (hz : x.cps.size ≤ n) : Sn k n (.str x) := ⟨by simp [PyData.depth], by simp [PyData.showable], h, by simp [PyData.bulk]; omega⟩
theorem Sn.int {k n : Nat} {i : Int} (h : i.natAbs < 10 ^ 50) : Sn k n (.int i) := by
  refine ⟨by simp [PyData.depth], ?_, ?_, by simp [PyData.bulk]⟩
  · simp only [PyData.showable]
    refine decide_eq_true ?_
    by_cases h0 : i.natAbs = 0
    · rw [h0]; decide
    · exact Nat.lt_trans ((Nat.log2_lt h0).mpr (show i.natAbs < 2 ^ 200 from Nat.lt_trans h (by decide +kernel))) (by decide)
  · simp only [PyData.leavesShort]
    refine decide_eq_true ?_
    have e := int_text_length_le10 (a := i) (k := 50) (by decide) h
    have e2 : (PyData.shown (.int i)).length = (toString i).length := by
      simp only [PyData.shown]
      exact PySem.ofString_length _
    omega
theorem Sn.bool {k n : Nat} {b : Bool} : Sn k n (.bool b) := ⟨by simp [PyData.depth], by simp [PyData.showable], by simp [PyData.leavesShort], by simp [PyData.bulk]⟩
/-- repr(x) -/
theorem Sn.repr {k n : Nat} {d : PyData} (h : Sn k n d) (hk : k ≤ 60) (hn : n ≤ 200000) : d.showable = true ∧ d.depth ≤ 60 ∧ d.shown.length ≤ sizeLine := by
  refine ⟨h.shw, Nat.le_trans h.dep hk, ?_⟩
  have h1 := PyData.shown_le_bulk 60 (by decide) d h.short
  have h3 : (60 + 2) * d.bulk ≤ 62 * 200000 := Nat.mul_le_mul (Nat.le_refl _) (Nat.le_trans h.bulk hn)
  have h4 : sizeLine = 16777216 := by decide
  omega
theorem Sn.tupl {k n m : Nat} {ds : List PyData} (h : ∀ d, d ∈ ds → Sn k n d) (hm : (n + 8) * ds.length + 8 ≤ m) : Sn (k + 1) m (.tuple ds) := by
  have key : ∀ ds : List PyData, (∀ d, d ∈ ds → Sn k n d) → PyData.depthAll ds ≤ k ∧ PyData.showableAll ds = true ∧ PyData.leavesShortAll 60 ds = true ∧ PyData.bulkAll ds ≤ (n + 8) * ds.length := fun ds => by
    induction ds with
    | nil => intro _; exact ⟨by simp [PyData.depthAll], by simp [PyData.showableAll], by simp [PyData.leavesShortAll], by simp [PyData.bulkAll]⟩
    | cons d ds ih =>
      intro h
      have h1 := h d (List.mem_cons_self ..)
      obtain ⟨a, b, c, e⟩ := ih fun x hx => h x (List.mem_cons_of_mem _ hx)
      refine ⟨?_, by simp only [PyData.showableAll, h1.shw, b, Bool.and_self], by simp only [PyData.leavesShortAll, h1.short, c, Bool.and_self], ?_⟩
      · simp only [PyData.depthAll]
        have := h1.dep
        omega
      · simp only [PyData.bulkAll, List.length_cons]
        have := h1.bulk
        rw [Nat.mul_add]
        omega
  obtain ⟨a, b, c, e⟩ := key ds h
  refine ⟨by simp only [PyData.depth]; omega, by simp only [PyData.showable]; exact b, by simp only [PyData.leavesShort]; exact c, by simp only [PyData.bulk]; omega⟩
theorem Sn.lstl {k n m : Nat} {ds : List PyData} (h : ∀ d, d ∈ ds → Sn k n d) (hm : (n + 8) * ds.length + 8 ≤ m) : Sn (k + 1) m (.list ds) := by
  obtain ⟨a, b, c, e⟩ := Sn.tupl h hm
  exact ⟨by simp only [PyData.depth] at a ⊢; exact a, by simp only [PyData.showable] at b ⊢; exact b, by simp only [PyData.leavesShort] at c ⊢; exact c, by simp only [PyData.bulk] at e ⊢; exact e⟩
theorem dqInts {K : PySem.W.Frag} {H : Hp} : ∀ (st : List Nat), DqAll K H (vi st) ((ci st).map PyData.int)
  | [] => .nil
  | x :: st => .cons (.intq _) (dqInts st)
theorem sel_trees (g : T → Bool) (l : List T) : ((List.range l.length).filter fun i => g (l.getD i .nil)).map (fun i => dSch (l.getD i .nil)) = (l.filter g).map dSch := by
  have e : (List.range l.length).map (fun i => l.getD i .nil) = l := by
    refine List.ext_getElem? fun i => ?_
    rw [List.getElem?_map]
    by_cases hi : i < l.length
    · rw [List.getElem?_range hi, List.getElem?_eq_getElem hi]
      show some (l.getD i .nil) = _
      rw [List.getD_eq_getElem?_getD, List.getElem?_eq_getElem hi]; rfl
    · rw [List.getElem?_eq_none (by rw [List.length_range]; omega), List.getElem?_eq_none (by omega)]; rfl
  have h1 := List.filter_map (f := fun i => l.getD i .nil) (p := g) (l := List.range l.length)
  rw [e] at h1
  rw [h1, List.map_map]
  rfl
section
variable {K : PySem.W.Frag} {H H' : Hp}
theorem dp_zip : ∀ {us : List V} {L : List T}, DpAll K H us (L.map dSch) → ∀ p, p ∈ us.zip L → Dp K H p.1 (dSch p.2)
  | [], _, _, p, hp => by simp at hp
  | _ :: _, [], _, p, hp => by simp at hp
  | u :: us, t :: L, .cons a b, p, hp => by
    rw [List.zip_cons_cons] at hp
    rcases List.mem_cons.mp hp with rfl | hp
    · exact a
    · exact dp_zip b p hp
theorem dp_pairs : ∀ (M : List (V × T)), (∀ p, p ∈ M → Dp K H p.1 (dSch p.2)) → DpAll K H (M.map Prod.fst) ((M.map Prod.snd).map dSch)
  | [], _ => .nil
  | p :: M, h => .cons (h p (.head _)) (dp_pairs M fun q hq => h q (.tail _ hq))
theorem keepX (e : LamX.ExtN H H') : Keep K H H' := fun _ _ h => extN_tup e h
theorem dp_extN (e : LamX.ExtN H H') {us : List V} {L : List T} (h : DpAll K H us (L.map dSch)) : DpAll K H' us (L.map dSch) := DpAll.keep (keepX e) (fun d hd => by obtain ⟨t, _, rfl⟩ := List.mem_map.mp hd; exact tf_sch t) h
/-- the sorted list's items are the schedules in the order of their places -/
theorem dp_sorted {us : List V} {n k c : Nat} (h : DpAll K H us (((allS n).filter (wiB k c)).map dSch)) :
    DpAll K H ((((us.zip ((allS n).filter (wiB k c))).map fun p => (p.1, dKey p.2)).mergeSort (PySem.W.dataLe false Prod.snd)).map Prod.fst) ((insT n k c).map dSch) := by
  have hl := DpAll.len h
  rw [List.length_map] at hl
  obtain ⟨e1, e2⟩ := sort_pairs us _ hl
  rw [e1, insT, ← e2, List.map_map]
  exact dp_pairs _ fun p hp => dp_zip h p ((List.mergeSort_perm _ _).mem_iff.mp hp)
end
theorem sch_ld (t : T) : ∀ x, x ∈ ci t.sch → 0 ≤ x ∧ x ≤ (t.size : Int) := by
  have key : ∀ (p : List Nat) (m : Nat), m ∈ p → m ≤ p.sum := fun p => by
    induction p with
    | nil => intro m h; cases h
    | cons n p ih =>
      intro m h
      rw [List.sum_cons]
      rcases List.mem_cons.mp h with rfl | h
      · omega
      · have := ih m h; omega
  intro x hx
  obtain ⟨m, hm, rfl⟩ := List.mem_map.mp hx
  have := key _ _ hm
  have := T.sum_sch t
  omega
variable {P : Program} {w : World} {K : PySem.W.Frag} {mg : Str → Option Value} {base : Heap}
theorem sch_small {t : T} {m : Nat} (h : t.size ≤ 60) (hm : m ∈ t.sch) : ((m : Nat) : Int).natAbs < 10 ^ 50 := by
  have := (sch_ld t (m : Int) (List.mem_map.mpr ⟨m, hm, rfl⟩)).2
  exact Nat.lt_of_le_of_lt (show ((m : Nat) : Int).natAbs ≤ 60 by omega) (by decide +kernel)
theorem sn_ints12 {N : Nat} (h : N ≤ 132) : Sn 1 4000 (.list ((ci (List.range N)).map PyData.int)) := Sn.lstl (n := 8) (k := 0) (fun d hd => by
    obtain ⟨i, hi, rfl⟩ := List.mem_map.mp hd
    obtain ⟨j, hj, rfl⟩ := List.mem_map.mp hi
    have hj2 := List.mem_range.mp hj
    exact (Sn.int (Nat.lt_of_le_of_lt (show ((j : Nat) : Int).natAbs ≤ 132 by omega) (by decide +kernel))).mono (Nat.le_refl _) (Nat.zero_le _)) (by simp [ci]; omega)
section
variable {P : Program} {w : World} {K : PySem.W.Frag} {mg : Str → Option Value} {base : Heap}
def sp_L_right (TX : Tx K mg) : Sp := fun vs H Q _ => ∃ (n k c : Nat) (o : HO), vs = [.int (n : Int), .int (k : Int), .int (c : Int)] ∧ n < 7 ∧ k < 8 ∧ c < 8 ∧ H sysModules = some o ∧ (∀ ps, o ≠ .tbl ps) ∧ LamX.Tabs (TTs TX) H ∧ ∀ H', LamX.ExtN H H' → LamX.Tabs (TTs TX) H' → Q (.bl true) H'
theorem ok_L_right (TX : Tx K mg) (TB : LamX.TabB base mg TX.cdl_L_right TX.ptl_L_right) : FnG P w K mg base CX0 67 TX.a_L_right TX.fd_L_right ["_law_size", "_law_most_runs", "_law_most_writes"] (sp_L_right TX) := by
  obtain ⟨oc, od, kV, doc, pm, an, ct, osl, efd, lk, hcd⟩ := TX.lawc_L_right
  rw [efd] at lk ⊢
  refine fnG_of lk hcd sc_L_right (fun vs H Q E h => ?_) (fun A hgd outer s H vs Q E hr h => ?_)
  · obtain ⟨n, k, c, o, rfl, _⟩ := h; rfl
  · obtain ⟨n, k, c, o, rfl, hn, hk, hc, hsys, hot, tb, q⟩ := h
    suffices hh : ∃ t, PSs (lawX_R P w K mg base TX.a_L_right (.ref TX.cdl_L_right) A outer s H E) (defBody s_L_right) t ∧ t { nx := fun _ H' => Q .non H', rt := Q } (start N_L_right [.int (n : Int), .int (k : Int), .int (c : Int)]) H from (let ⟨t, h1, h2⟩ := hh; ⟨t, h1.nox, h2⟩)
    refine ⟨_, (pss_cons (ps_set (i := 3) sc_L_right.nd rfl (.inl rfl) (pe_call (ok_L_all TX) (hr.mono (by decide)) (by rfl) TX.g_L_all TX.f_L_all.kp TX.bd_L_all .nil pass0 (pa_cons (pv 0) pa_nil)))
      (pss_cons (ps_set (i := 4) sc_L_right.nd rfl (.inr rfl) (pe_lc (own := [("_law_plan", 6)]) (by rfl) sc_L_right.nd (k_piL (K := K) rfl (pv 3)) (blkOk_by (own := [("_law_plan", 6)]) (N := N_L_right) (sc := defScope s_L_right) (by decide +kernel)) (fun _ _ _ _ _ => (pg_name (i := 6) sc_L_right.nd rfl (Or.inl rfl))) (fun _ _ _ _ _ => (pts_one (pt_val (pe_call (ok_L_within TX) (hr.mono (by decide)) (by rfl) TX.g_L_within TX.f_L_within.kp TX.bd_L_within .nil pass0 (pa_cons (pv 6) (pa_cons (pv 1) (pa_cons (pv 2) pa_nil))))))) (fun _ _ _ _ _ => (pv 6))))
      (pss_cons (ps_set (i := 4) sc_L_right.nd rfl (.inr rfl) (pe_sortK (T := TTs TX) (k := 63) (N := ["_law_plan"]) (a := "_law_plan") (by rfl) TX.b_sorted (by decide +kernel) (pv 4) TB rfl (List.mem_singleton.mpr rfl) (fun q hq _ => by rw [List.mem_singleton.mp hq]; rfl) (hr.mono (by decide)) ⟨rfl, rfl, rfl, by decide +kernel, rfl, by decide +kernel, by decide +kernel⟩ rfl (fun _ _ _ _ _ => rfl) (fun _ _ _ _ _ _ hr => (pe_call (ok_L_key TX) (hr.mono (by decide)) (by rfl) TX.g_L_key TX.f_L_key.kp TX.bd_L_key .nil pass0 (pa_cons (pv 0) pa_nil)))))
      (pss_cons (ps_if (pt_cmpR op_ne (pe_callB (id := "repr") (k_reprQ (K := K) rfl hgd hr.units) (by rfl) TX.b_repr (by decide +kernel) (pa_cons (pe_lc (own := [("_law_plan", 6)]) (by rfl) sc_L_right.nd (k_piL (K := K) rfl (pv 4)) (blkOk_by (own := [("_law_plan", 6)]) (N := N_L_right) (sc := defScope s_L_right) (by decide +kernel)) (fun _ _ _ _ _ => (pg_name (i := 6) sc_L_right.nd rfl (Or.inl rfl))) (fun _ _ _ _ _ => pts_nil) (fun _ _ _ _ _ => (pe_call (ok_index_withinN TX) (hr.mono (by decide)) (by rfl) TX.g_index_within TX.f_index_within.kp TX.bd_index_within .nil pass0 (pa_cons (pv 6) (pa_cons (pv 1) (pa_cons (pv 2) pa_nil)))))) pa_nil)) (pe_callB (id := "repr") (k_reprQ (K := K) rfl hgd hr.units) (by rfl) TX.b_repr (by decide +kernel) (pa_cons (pe_lrng rfl (by rfl) TX.b_list (by rfl) TX.b_range (pe_callB (id := "len") (k_len (K := K) rfl) (by rfl) TX.b_len (by decide +kernel) (pa_cons (pv 4) pa_nil))) pa_nil)) (nomark _))
        (pss_one (ps_ret pe_bl))
        pss_nil)
      (pss_cons (ps_if (pt_cmpR (op_neD hr.units) (pe_lc (own := [("_law_at", 7)]) (by rfl) sc_L_right.nd (pi_range1 (by rfl) TX.b_range (pa_cons (pe_callB (id := "len") (k_len (K := K) rfl) (by rfl) TX.b_len (by decide +kernel) (pa_cons (pv 4) pa_nil)) pa_nil)) (blkOk_by (own := [("_law_at", 7)]) (N := N_L_right) (sc := defScope s_L_right) (by decide +kernel)) (fun _ _ _ _ _ => (pg_name (i := 7) sc_L_right.nd rfl (Or.inl rfl))) (fun _ _ _ _ _ => pts_nil) (fun _ _ _ _ _ => (pe_call (ok_schedule_withinN TX) (hr.mono (by decide)) (by rfl) TX.g_schedule_within TX.f_schedule_within.kp TX.bd_schedule_within .nil pass0 (pa_cons (pv 0) (pa_cons (pv 1) (pa_cons (pv 2) (pa_cons (pv 7) pa_nil))))))) (pv 4) (nomark _))
        (pss_one (ps_ret pe_bl))
        pss_nil)
      (pss_cons (ps_set (i := 5) sc_L_right.nd rfl (.inl rfl) (pe_tup (pa_cons pe_str (pa_cons (pe_callB (id := "repr") (k_reprQ (K := K) rfl hgd hr.units) (by rfl) TX.b_repr (by decide +kernel) (pa_cons (pe_callB (id := "len") (k_len (K := K) rfl) (by rfl) TX.b_len (by decide +kernel) (pa_cons (pv 4) pa_nil)) pa_nil)) pa_nil))))
      (pss_cons (ps_if (pt_cmpR (op_neD hr.units) (pe_met_R (n := 64) TX TB (hr.mono (by decide)) hgd (LamX.lamS_by (by decide +kernel)) rfl (fun _ _ _ _ _ => rfl) (fun _ _ _ _ _ _ _ hr => (pe_call (ok_schedule_within TX) (hr.mono (by decide)) (by rfl) TX.g_schedule_within TX.f_schedule_within.kp TX.bd_schedule_within .nil passLw_R (pa_cons (pv 0) (pa_cons (pv 1) (pa_cons (pv 2) (pa_cons (pe_callB (id := "len") (k_len (K := K) rfl) (by rfl) TX.b_len (by decide +kernel) (pa_cons (pv 4) pa_nil)) pa_nil))))))) (pv 5) (nomark _))
        (pss_one (ps_ret pe_bl))
        pss_nil)
      (pss_cons (ps_for PassesOwn.never rfl (k_piL (K := K) rfl (pv 3)) (pg_name (i := 6) sc_L_right.nd rfl (.inr rfl))
        (pss_one (ps_if (pt_cmpR (op_notInD (u65 hr)) (pv 6) (pv 4) (by rfl))
          (pss_one (ps_if (pt_cmpR (op_neD hr.units) (pe_met_R (n := 64) TX TB (hr.mono (by decide)) hgd (LamX.lamS_by (by decide +kernel)) rfl (fun _ _ _ _ _ => rfl) (fun _ _ _ _ _ _ _ hr => (pe_call (ok_index_within TX) (hr.mono (by decide)) (by rfl) TX.g_index_within TX.f_index_within.kp TX.bd_index_within .nil passLw_R (pa_cons (pv 6) (pa_cons (pv 1) (pa_cons (pv 2) pa_nil)))))) (pe_tup (pa_cons pe_str (pa_cons (pe_callB (id := "repr") (k_reprQ (K := K) rfl hgd hr.units) (by rfl) TX.b_repr (by decide +kernel) (pa_cons (pv 6) pa_nil)) pa_nil))) (nomark _))
            (pss_one (ps_ret pe_bl))
            pss_nil))
          pss_nil)))
      (pss_one (ps_ret pe_bl)))))))))), ?_⟩
    have hl132 : (allS n).length ≤ 132 := by
      have h6 : ∀ n : Fin 7, (allS n.val).length ≤ 132 := by decide +kernel
      exact h6 ⟨n, hn⟩
    refine ⟨_, rfl, n, rfl, by omega, fun H1 pl us s1 hpl hus => ?_⟩
    have hul := DpAll.len hus
    rw [List.length_map] at hul
    -- those within the budgets
    refine ⟨_, rfl, pl, rfl, ⟨_, .inl (.inl hpl)⟩, fun D nD => ?_⟩
    refine lc_sel (K := K) (walk_list (xs := us)) (fun i => wiB k c ((allS n).getD i .nil)) (fun i => dSch ((allS n).getD i .nil)) (fun i _ => tf_sch _) (by omega) nD (fun H' s' => .inl (.inl (s' _ _ hpl))) ?_ ?_ (fun x σ' H' Q Q' h => h _ _) (fun σ' H' Q Q' h e => by
      obtain ⟨v1, e1, v2, e2, v3, e3, a, t, k', c', e4, h1, h2, h3⟩ := e
      exact ⟨v1, e1, v2, e2, v3, e3, a, t, k', c', e4, h1, h2, fun H'' s'' => (by obtain ⟨b, g2, g3⟩ := h3 H'' s''; exact ⟨b, g2, h _ _ g3⟩)⟩)
    · rintro i x Hx Hx' hi sx ⟨rfl, hx⟩ R hR
      have hi' : i < (allS n).length := by omega
      have hg := List.getElem?_eq_getElem hi'
      obtain ⟨v, hv, hd⟩ := DpAll.get (DpAll.same sx hus) (i := i) (d := dSch (allS n)[i]) (by rw [List.getElem?_map, hg]; rfl)
      rw [hv] at hx
      cases hx
      have eD : (allS n).getD i .nil = (allS n)[i] := by rw [List.getD_eq_getElem?_getD, hg]; rfl
      have hsz := allS_size n _ (List.getElem_mem hi')
      rw [eD] at hR ⊢
      generalize (allS n)[i] = t at hd hR hsz ⊢
      obtain ⟨a, rfl, ha⟩ := Dp.intsInv hd
      rw [← vi_ci] at ha
      exact ⟨rfl, .ref a, rfl, _, rfl, _, rfl, a, t, k, c, rfl, ha, by omega, fun H' s' => ⟨_, rfl, rfl, s', fun _ => ⟨_, rfl, hR _ _ s' (Dp.same s' hd)⟩⟩⟩
    intro H2 acc s2 hD2 hAcc
    rw [hul, sel_trees] at hAcc
    have hLl : ((allS n).filter (wiB k c)).length ≤ 132 := Nat.le_trans (List.length_filter_le _ _) hl132
    have hal := DpAll.len hAcc
    rw [List.length_map] at hal
    -- sorted by the key
    have s02 := s1.trans s2
    have tb2 := Tabs.same tb s02
    refine ⟨.ref D, rfl, tb2, fun H3 x3 tb3 => ?_⟩
    have hAcc3 := dp_extN x3 hAcc
    refine ⟨D, (acc.zip ((allS n).filter (wiB k c))).map fun p => (p.1, dKey p.2), rfl, ?_, ?_, ?_, ?_, ?_, ?_⟩
    · rw [List.map_map]
      have e : (acc.zip ((allS n).filter (wiB k c))).map (Prod.fst ∘ fun p : V × T => (p.1, dKey p.2)) = acc := List.map_fst_zip (Nat.le_of_eq hal)
      rw [e]
      exact .inl (.inl (x3 _ _ hD2 fun _ z => nomatch z))
    · intro d hd d' hd'
      obtain ⟨b, hb, rfl⟩ := List.mem_map.mp hd
      obtain ⟨p, _, rfl⟩ := List.mem_map.mp hb
      obtain ⟨b', hb', rfl⟩ := List.mem_map.mp hd'
      obtain ⟨p', _, rfl⟩ := List.mem_map.mp hb'
      exact alikeK _ _
    · intro h2
      rw [List.length_map, List.length_zip] at h2
      have hn1 : 1 ≤ n := by
        rcases Nat.eq_zero_or_pos n with e | e
        · rw [e] at h2
          have : ((allS 0).filter (wiB k c)).length ≤ 1 := List.length_filter_le _ _
          omega
        · exact e
      refine .inl fun d hd => ?_
      obtain ⟨b, hb, rfl⟩ := List.mem_map.mp hd
      obtain ⟨p, hp, rfl⟩ := List.mem_map.mp hb
      have hm := (List.mem_filter.mp (List.of_mem_zip hp).2).1
      have hs := allS_size n _ hm
      cases ht : p.2 with
      | nil =>
        rw [ht] at hs
        have : (T.nil).size = 0 := rfl
        omega
      | node l r => exact ⟨_, _, rfl⟩
    · intro b hb
      obtain ⟨p, hp, rfl⟩ := List.mem_map.mp hb
      have hs := allS_size n _ (List.mem_filter.mp (List.of_mem_zip hp).2).1
      have := key_dep p.2
      show (dKey p.2).depth ≤ 64
      omega
    · intro b hb G sG
      obtain ⟨p, hp, rfl⟩ := List.mem_map.mp hb
      have hs := allS_size n _ (List.mem_filter.mp (List.of_mem_zip hp).2).1
      have hd := Dp.same sG (dp_zip hAcc3 p hp)
      obtain ⟨a, ea, ha⟩ := Dp.intsInv hd
      rw [← vi_ci] at ha
      exact ⟨p.1, rfl, a, p.2, (by rw [ea]; rfl), ha, by omega, by omega, fun H' p' s' h' => ⟨s', h'⟩⟩
    intro p3 G3 sG3 np3
    have hys := dp_sorted (DpAll.same sG3 hAcc3)
    generalize (((acc.zip ((allS n).filter (wiB k c))).map fun p => (p.1, dKey p.2)).mergeSort (PySem.W.dataLe false Prod.snd)).map Prod.fst = ys at hys ⊢
    have y4 := same_upd (o := .lst ys) np3
    have hp3 := upd_same (H := G3) (a := p3) (o := .lst ys)
    have hys4 := DpAll.same y4 hys
    have x4 : LamX.ExtN H (upd G3 p3 (.lst ys)) := ((LamX.ExtN.of s02).trans x3).trans (.of (sG3.trans y4))
    have tb4 := Tabs.same tb3 (sG3.trans y4)
    have hpl4 : (upd G3 p3 (.lst ys)) pl = some (.lst us) := ((x3.trans (.of (sG3.trans y4))) _ _ (s2 _ _ hpl) fun _ z => nomatch z)
    have hus4 := dp_extN (((LamX.ExtN.of s2).trans x3).trans (.of (sG3.trans y4))) hus
    generalize upd G3 p3 (.lst ys) = H4 at hp3 hys4 x4 tb4 hpl4 hus4 ⊢
    clear y4 hys np3 sG3 tb3 hAcc3 x3 tb2 s02 hAcc hD2 nD s2 hal tb s1 hpl hus
    have hN := DpAll.len hys4
    rw [List.length_map, insT_len hn hk hc] at hN
    have hN132 : nB k c n ≤ 132 := by rw [← inside_len n hn k hk c hc]; exact hLl
    have hsys4 := x4 _ _ hsys hot
    have ns4 : ∀ {G : Hp} {x : Addr}, Same H4 G → G x = none → x ≠ sysModules := fun {G x} s e z => by rw [z, s _ _ hsys4] at e; cases e
    obtain ⟨N, eN⟩ : ∃ N, N = nB k c n := ⟨_, rfl⟩
    rw [← eN] at hN hN132
    obtain ⟨v1, v2, v3⟩ := (sn_ints12 hN132).repr (by decide) (by decide)
    -- the indexes
    refine ⟨.ref p3, rfl, p3, rfl, ⟨_, .inl (.inl hp3)⟩, fun D nD => lc_ints (K := K) (walk_list (K := K) (a := p3) (xs := ys)) (ci (List.range N)) (by simp [ci]; omega) (by omega) nD (fun H' s' => .inl (.inl (s' _ _ hp3))) ?_ ?_ (fun x σ' H' Q Q' h => h _ _) (fun σ' H' Q Q' h => h _ _)⟩
    · rintro j x Ha Hb hj sa ⟨rfl, hx⟩ b hb R hR
      have hj2 : j < (insT n k c).length := by rw [insT_len hn hk hc]; omega
      obtain ⟨v', hv', hDp⟩ := DpAll.get (DpAll.same sa hys4) (i := j) (d := dSch (insT n k c)[j]) (by rw [List.getElem?_map, List.getElem?_eq_getElem hj2]; rfl)
      rw [hx] at hv'
      cases hv'
      obtain ⟨f1, f2, f3, f4⟩ := insT_at hn hk hc (List.getElem?_eq_getElem hj2)
      generalize (insT n k c)[j] = t at hDp f1 f2 f3
      obtain ⟨a, rfl, ha⟩ := Dp.intsInv hDp
      rw [← vi_ci] at ha
      have eb : b = (j : Int) := by
        unfold ci at hb
        rw [List.getElem?_map, List.getElem?_range (by omega)] at hb
        cases hb; rfl
      refine ⟨rfl, rfl, _, rfl, _, rfl, _, rfl, a, t, k, c, rfl, ha, by omega, by omega, by omega, f3, fun H' s' => ?_⟩
      rw [f1, ← eb]
      exact hR _ s'
    intro H5 s5 hD5
    have nDs : D ≠ sysModules := fun z => by rw [z, hsys4] at nD; cases nD
    refine ⟨.ref D, _, rfl, .lstq (.inl (.inl hD5)) nDs (by rw [← vi_ci]; exact dqInts _), v1, v2, v3, ?_⟩
    have hp5 := s5 _ _ hp3
    refine ⟨.ref p3, rfl, p3, ys, rfl, .inl (.inl (.inl hp5)), _, rfl, ys.length, rfl, by omega, fun l5 n5 => ?_⟩
    have z5 := same_upd (o := .lst ((List.range ys.length).map fun i => V.int ((i : Nat) : Int))) n5
    have g5 := upd_same (H := H5) (a := l5) (o := .lst ((List.range ys.length).map fun i => V.int ((i : Nat) : Int)))
    have s6 := s5.trans z5
    have ns5 := ns4 s5 n5
    generalize upd H5 l5 _ = H6 at *
    rw [hN] at g5
    refine ⟨.ref l5, .list ((ci (List.range N)).map PyData.int), rfl, .lstq (.inl (.inl g5)) ns5 (dqInts (List.range N)), v1, v2, v3, rfl, false, by simp, iteF ?_⟩
    have hp6 := s6 _ _ hp3
    clear z5 n5 g5 ns5 hp5 nD nDs hD5
    -- the schedules at the indexes
    refine ⟨.ref p3, rfl, p3, ys, rfl, .inl (.inl (.inl hp6)), _, rfl, by omega, by omega, fun D2 nD2 => ?_⟩
    rw [show ((ys.length : Nat) : Int).toNat = ys.length by omega]
    refine lc_all (K := K) walk_range ((insT n k c).map dSch) (by rw [List.length_map, insT_len hn hk hc]; omega) (fun d h => by obtain ⟨p, _, rfl⟩ := List.mem_map.mp h; exact tf_sch _) (by omega) nD2 (fun _ _ => trivial) ?_ ?_ (fun x σ' H' Q Q' h => h _ _) (fun σ' H' Q Q' h => h _ _)
    · rintro j x Ha Hb hj sa hx d hd R hR
      obtain ⟨rfl, rfl⟩ := hx
      have hj2 : j < (insT n k c).length := by rw [insT_len hn hk hc]; omega
      obtain ⟨f1, f2, f3, f4⟩ := insT_at hn hk hc (List.getElem?_eq_getElem hj2)
      rw [List.getElem?_map, List.getElem?_eq_getElem hj2] at hd
      cases hd
      generalize (insT n k c)[j] = t at hR f1 f2 f3
      have ej : (0 : Int) + (j : Nat) = (j : Int) := by omega
      refine ⟨rfl, rfl, _, rfl, _, rfl, _, rfl, _, rfl, t, k, c, (by rw [f1, f2, ← ej]; rfl), by omega, by omega, by omega, f3, fun H' q' s' h' => hR _ _ s' (dp_tup ?_)⟩
      rw [← vi_ci]; exact h'
    intro H7 acc7 s7 hD7 hA7
    have hp7 := s7 _ _ hp6
    have s47 := s6.trans s7
    have shS : ∀ e, e ∈ (insT n k c).map dSch → Sh 1 e := fun e he => by
      obtain ⟨p, _, rfl⟩ := List.mem_map.mp he
      exact Sh.tup (k := 0) (Sh.ints _)
    refine ⟨.ref p3, rfl, ne_data (d := .list ((insT n k c).map dSch)) (.lst (.inl (.inl hD7)) hA7) (.lst (.inl (.inl hp7)) (DpAll.same s47 hys4)) (Sh.lst (k := 1) shS) (by decide) ⟨false, rfl, iteF ?_⟩⟩
    -- the first index behind the last
    have hintL : Sn 0 0 (.int ((ys.length : Nat) : Int)) := .int (Nat.lt_of_le_of_lt (show ((ys.length : Nat) : Int).natAbs ≤ 132 by omega) (by decide +kernel))
    obtain ⟨w1, w2, w3⟩ := hintL.repr (by decide) (by decide)
    refine ⟨.ref p3, rfl, p3, ys, rfl, .inl (.inl (.inl hp7)), .int ((ys.length : Nat) : Int), .int ((ys.length : Nat) : Int), rfl, .intq _, w1, w2, w3, sz60 (by simp), fun t8 n8 => ?_⟩
    have z8 := same_upd (o := .tup [V.str "index", V.str (PyData.shown (.int ((ys.length : Nat) : Int)))]) n8
    have ht8 := upd_same (H := H7) (a := t8) (o := .tup [V.str "index", V.str (PyData.shown (.int ((ys.length : Nat) : Int)))])
    have s48 := s47.trans z8
    have hp8 := z8 _ _ hp7
    generalize upd H7 t8 _ = H8 at ht8 s48 hp8 ⊢
    clear z8 n8 hD7 hA7 s7 s47 hp7 hp6 s6 nD2
    refine ⟨Tabs.same tb4 s48, fun H15 x15 tb15 H16 s16 E' R hE hR => ?_⟩
    have hp16 := s16 _ _ (x15 _ _ hp8 fun _ z => nomatch z)
    refine ⟨_, rfl, _, rfl, _, rfl, .ref p3, rfl, p3, ys, rfl, .inl (.inl (.inl hp16)), n, k, c, ys.length, rfl, by omega, by omega, by omega, by omega, fun dd H17 s17 hdd => hE 3 TX.c_InvalidIndex dd "index" _ _ H17 rfl rfl hdd (.intq _) w1 w2 w3 fun H18 t18 s18 ht18 => ?_⟩
    have s1618 := s16.trans (s17.trans s18)
    have ht818 := s1618 _ _ (x15 _ _ ht8 fun _ z => nomatch z)
    refine ⟨.ref t8, rfl, ne_data (d := .tuple [.str "index", .str (PyData.shown (.int ((ys.length : Nat) : Int)))]) (.tup (.inl (.inl ht18)) (.cons (.str _) (.cons (.str _) .nil))) (.tup (.inl (.inl ht818)) (.cons (.str _) (.cons (.str _) .nil))) (Sh.tup (k := 0) fun e he => ?_) (by decide) ⟨false, rfl, iteF ?_⟩⟩
    · simp only [List.mem_cons, List.not_mem_nil, or_false] at he
      rcases he with rfl | rfl
      · exact Sh.str (strOk_of "index")
      · exact Sh.str SOk.int
    have x418 : LamX.ExtN H4 H18 := (LamX.ExtN.of s48).trans (x15.trans (.of s1618))
    have tb18 := Tabs.same tb15 s1618
    clear hE hR s16 s17 s18 s1618 ht818 ht18 hdd x15 tb15 ht8 s48 hp8 hp16 w1 w2 w3 hintL
    -- those outside the budgets
    have hpl18 := x418 _ _ hpl4 fun _ z => nomatch z
    refine ⟨.ref pl, rfl, pl, rfl, ⟨_, .inl (.inl hpl18)⟩, for_list (K := K) (xs := us) (fun j σ G => ∃ y6 y7, σ = [some (.int (n : Int)), some (.int (k : Int)), some (.int (c : Int)), some (.ref pl), some (.ref p3), some (.ref t8), y6, y7] ∧ LamX.ExtN H4 G ∧ LamX.Tabs (TTs TX) G) ⟨_, _, rfl, x418, tb18⟩ (fun i σ H' _ h => by obtain ⟨_, _, _, h, _⟩ := h; exact .inl (.inl (h _ _ hpl4 fun _ z => nomatch z))) ?_ ?_⟩
    · rintro j v σ G hv ⟨y6, y7, rfl, xG, tbG⟩
      have hj : j < (allS n).length := by have := (List.getElem?_eq_some_iff.mp hv).1; omega
      have hg := List.getElem?_eq_getElem hj
      obtain ⟨v', hv', hDp⟩ := DpAll.get (dp_extN xG hus4) (i := j) (d := dSch (allS n)[j]) (by rw [List.getElem?_map, hg]; rfl)
      rw [hv] at hv'
      cases hv'
      have hts := allS_size n _ (List.getElem_mem hj)
      have htm := List.getElem_mem hj
      generalize (allS n)[j] = t at hDp hts htm
      obtain ⟨b, rfl, hb⟩ := Dp.intsInv hDp
      rw [← vi_ci] at hb
      have hpG := xG _ _ hp3 fun _ z => nomatch z
      have shT : Sh 1 (dSch t) := Sh.tup (k := 0) (Sh.ints _)
      refine ⟨.ref b, rfl, .ref p3, rfl, dSch t, (insT n k c).map dSch, hDp, .lst (.inl (.inl hpG)) (dp_extN xG hys4), shT.shaped (by decide), (Sh.lst (k := 1) shS).shaped (by decide), _, rfl, ?_⟩
      by_cases he : (((insT n k c).map dSch).any fun z => PyData.eqv z (dSch t)) = true
      · rw [he]
        exact iteF ⟨_, _, rfl, xG, tbG⟩
      rw [show (((insT n k c).map dSch).any fun z => PyData.eqv z (dSch t)) = false by simpa using he]
      refine iteT ?_
      have hnw : ¬ Wi t k c := fun hw => he (List.any_eq_true.mpr ⟨dSch t, List.mem_map.mpr ⟨t, (List.mergeSort_perm _ _).mem_iff.mpr (List.mem_filter.mpr ⟨htm, wiB_iff.mpr hw⟩), rfl⟩, SeqAt.eqv_refl _ shT.1⟩)
      have hSn : Sn 1 4000 (dSch t) := Sn.tupl (n := 100) (k := 0) (fun d hd => by
        obtain ⟨i, hi, rfl⟩ := List.mem_map.mp hd
        obtain ⟨m, hm, rfl⟩ := List.mem_map.mp hi
        exact (Sn.int (n := 0) (sch_small (by omega) hm)).mono (Nat.le_refl _) (Nat.zero_le _)) (by simp [ci, T.sch_len]; omega)
      obtain ⟨w1, w2, w3⟩ := hSn.repr (by decide) (by decide)
      refine ⟨tbG, fun H15 x15 tb15 H16 s16 E' R hE hR => ?_⟩
      have hb16 := Same.tup s16 (extN_tup x15 hb)
      have dqT : ∀ {G' : Hp}, SqT K G' b (vi t.sch) → Dq K G' (.ref b) (dSch t) := fun h => .tupq h (dqInts _)
      refine ⟨_, rfl, _, rfl, _, rfl, b, t, k, c, rfl, hb16, by omega, by omega, by omega, hnw, fun dd H17 s17 hdd => hE 5 TX.c_OutsideBudget dd "outside" _ _ H17 rfl rfl hdd (dqT (Same.tup s17 hb16)) w1 w2 w3 fun H18 t18 s18 ht18 => ?_⟩
      have hb18 := Same.tup (s17.trans s18) hb16
      refine ⟨_, rfl, _, _, rfl, dqT hb18, w1, w2, w3, sz60 (by simp), fun t19 n19 => ?_⟩
      have z19 := same_upd (o := .tup [V.str "outside", V.str (PyData.shown (dSch t))]) n19
      refine ne_data (d := .tuple [.str "outside", .str (PyData.shown (dSch t))]) (.tup (.inl (.inl (z19 _ _ ht18))) (.cons (.str _) (.cons (.str _) .nil))) (.tup (.inl (.inl upd_same)) (.cons (.str _) (.cons (.str _) .nil))) (Sh.tup (k := 0) fun e he => ?_) (by decide) ⟨false, rfl, iteF ?_⟩
      · simp only [List.mem_cons, List.not_mem_nil, or_false] at he
        rcases he with rfl | rfl
        · exact Sh.str (strOk_of "outside")
        · exact Sh.str (SOk.tup SOk.ints)
      have sz := s16.trans (s17.trans (s18.trans z19))
      exact ⟨_, _, rfl, xG.trans (x15.trans (.of sz)), Tabs.same tb15 sz⟩
    rintro σ G ⟨y6, y7, rfl, xG, tbG⟩
    exact q _ (x4.trans xG) tbG
end
/-- all but the list at a stays, tables aside -/
def ButN (a : Addr) (H H' : Hp) : Prop := ∀ b o, b ≠ a → H b = some o → (∀ ps, o ≠ .tbl ps) → H' b = some o
theorem ButN.of {a : Addr} {H H' : Hp} (b : But a H H') : ButN a H H' := fun c o n e _ => b c o n e
theorem ButN.same {a : Addr} {H H' : Hp} (b : Same H H') : ButN a H H' := fun c o n e _ => b c o e
theorem ButN.ext {a : Addr} {H H' : Hp} (b : LamX.ExtN H H') : ButN a H H' := fun c o n e t => b c o e t
theorem ButN.trans {a : Addr} {H H1 H2 : Hp} (x : ButN a H H1) (y : ButN a H1 H2) : ButN a H H2 := fun c o n e t => y c o n (x c o n e t) t
theorem ButN.out {a : Addr} {H H1 H2 : Hp} (x : LamX.ExtN H H1) (y : ButN a H1 H2) (h : H a = none) : LamX.ExtN H H2 := fun c o e t => y c o (fun z => by rw [z, h] at e; cases e) (x c o e t) t
theorem Pot.ext {H H' : Hp} {a : Addr} {n : Int} (h : Pot H a n) (e : LamX.ExtN H H') : Pot H' a n := by
  obtain ⟨d, s, m, h1, r⟩ := h
  exact ⟨d, s, m, e _ _ h1 (fun _ z => nomatch z), r⟩
theorem Pot.tabs {T : List (Addr × Str)} {H H' : Hp} {a : Addr} {n : Int} (h : Pot H a n) (t : LamX.Tabs T H) (b : But a H H') : LamX.Tabs T H' := by
  obtain ⟨d, s, m, h1, r⟩ := h
  exact tabs_but t b h1
theorem ButN.tup {K : PySem.W.Frag} {a b : Addr} {H H' : Hp} {xs : List V} (s : ButN a H H') (n : b ≠ a) (h : SqT K H b xs) : SqT K H' b xs := by
  rcases h with (h | ⟨o, h⟩) | h
  · exact .inl (.inl (s _ _ n h fun _ z => nomatch z))
  · exact .inl (.inr ⟨o, s _ _ n h fun _ z => nomatch z⟩)
  · exact .inr h
theorem ButN.seq {K : PySem.W.Frag} {a b : Addr} {H H' : Hp} {xs : List V} (s : ButN a H H') (n : b ≠ a) (h : SqL K H b xs) : SqL K H' b xs := by
  rcases h with (h | ⟨o, h⟩) | h
  · exact .inl (.inl (s _ _ n h fun _ z => nomatch z))
  · exact .inl (.inr ⟨o, s _ _ n h fun _ z => nomatch z⟩)
  · exact .inr h
theorem ButN.out1 {a : Addr} {H H1 H2 : Hp} (x : LamX.ExtN H H1) (y : ButN a H1 H2) (h : H1 a = none) : LamX.ExtN H H2 := fun c o e t => y c o (fun z => by have := x c o e t; rw [z, h] at this; cases this) (x c o e t) t
theorem ButN.but {a : Addr} {H H1 H2 : Hp} (x : ButN a H H1) (y : But a H1 H2) : ButN a H H2 := x.trans (.of y)
/-- a pair of budgets that nobody changes -/
def Pr2 (H : Hp) (v : V) : Prop := ∃ (q : Addr) (b c : Nat), v = .ref q ∧ H q = some (.tup [.int (b : Int), .int (c : Int)]) ∧ b ≤ 7 ∧ c ≤ 7
theorem Pr2.same {H H' : Hp} {v : V} (h : Pr2 H v) (s : Same H H') : Pr2 H' v := by
  obtain ⟨q, x, y, e, h1, h2, h3⟩ := h
  exact ⟨q, x, y, e, s _ _ h1, h2, h3⟩
theorem Pr2.mk' {H : Hp} {t : Addr} {x y : Int} (h1 : 0 ≤ x ∧ x ≤ 7) (h2 : 0 ≤ y ∧ y ≤ 7) : Pr2 (upd H t (.tup [.int x, .int y])) (.ref t) :=
  ⟨t, x.toNat, y.toNat, rfl, by rw [upd_same, show ((x.toNat : Nat) : Int) = x by omega, show ((y.toNat : Nat) : Int) = y by omega], by omega, by omega⟩
section
variable {P : Program} {w : World} {K : PySem.W.Frag} {mg : Str → Option Value} {base : Heap}
def sp_law (K : PySem.W.Frag) (cs : List (Addr × Addr)) : Sp := fun vs H Q _ => ∃ (a : Addr) (ns : List Int) (o : HO), vs = [.ref a] ∧ SqL K H a (ns.map V.int) ∧ ns.length ≤ 63 ∧ H sysModules = some o ∧ (∀ ps, o ≠ .tbl ps) ∧ (∀ p ∈ cs, H p.2 = some (.tbl #[])) ∧ ∀ H', Q (.bl true) H'
theorem nth2 {n : Nat} (x : List V) (h : x.length = n) (i : Nat) (hi : i < (if (if (x.length : Int) < 2 then (x.length : Int) else 2) > 1 then (if (x.length : Int) < 2 then (x.length : Int) else 2) else 1 : Int).toNat) : i ≤ 62 := by
  have : (if (if (x.length : Int) < 2 then (x.length : Int) else 2) > 1 then (if (x.length : Int) < 2 then (x.length : Int) else 2) else 1) ≤ 3 := by split <;> split <;> omega
  omega
theorem ok_law (TX : Tx K mg) (TB : LamX.TabB base mg TX.cdl_L_right TX.ptl_L_right) : FnG P w K mg base CX0 68 TX.a_law TX.fd_law ["_law_script"] (sp_law K [(TX.cdl_L_right, TX.ptl_L_right)]) := by
  refine Fun.okG TX.f_law sc_law (fun vs H Q E h => ?_) (fun cdv A hgd outer s H vs Q E hr h => ?_)
  · obtain ⟨a, ns, o, rfl, _⟩ := h; rfl
  · obtain ⟨a, ns, o, rfl, hS, hlen, hsys, hot, htab, q⟩ := h
    refine ⟨_, (pss_cons (ps_for PassesOwn.never rfl (k_piL (K := K) rfl (pe_lst (pa_cons (pe_tup (pa_cons pe_int (pa_cons pe_int pa_nil))) (pa_cons (pe_tup (pa_cons pe_int (pa_cons pe_int pa_nil))) (pa_cons (pe_tup (pa_cons pe_int (pa_cons pe_int pa_nil))) (pa_cons (pe_tup (pa_cons pe_int (pa_cons pe_int pa_nil))) (pa_cons (pe_tup (pa_cons pe_int (pa_cons pe_int pa_nil))) pa_nil))))))) (pg_tup rfl (pgs_cons (pg_name (i := 1) sc_law.nd rfl (.inl rfl)) (pgs_cons (pg_name (i := 2) sc_law.nd rfl (.inl rfl)) pgs_nil)))
        (pss_one (ps_if (pt_not (pt_val (pe_callG ((fun _ => ok_L_right TX TB) TX) hgd (hr.mono (by decide)) (by rfl) TX.g_L_right TX.f_L_right.kp TX.bd_L_right .nil pass0 (pa_cons pe_int (pa_cons (pv 1) (pa_cons (pv 2) pa_nil))))))
          (pss_one (ps_ret pe_bl))
          pss_nil)))
      (pss_cons (ps_for PassesOwn.never rfl (pi_range1 (by rfl) TX.b_range (pa_cons (pe_callB (id := "max") (call_max2 rfl) (by rfl) TX.b_max (by decide +kernel) (pa_cons pe_int (pa_cons (pe_callB (id := "min") (call_min2 rfl) (by rfl) TX.b_min (by decide +kernel) (pa_cons pe_int (pa_cons (pe_callB (id := "len") (k_len (K := K) rfl) (by rfl) TX.b_len (by decide +kernel) (pa_cons (pv 0) pa_nil)) pa_nil))) pa_nil))) pa_nil)) (pg_name (i := 3) sc_law.nd rfl (.inl rfl))
        (pss_cons (ps_set (i := 4) sc_law.nd rfl (.inl rfl) (pe_call (ok_L_pot TX) (hr.mono (by decide)) (by rfl) TX.g_L_pot TX.f_L_pot.kp TX.bd_L_pot .nil pass0 (pa_cons (pv 0) (pa_cons (pv 3) pa_nil))))
        (pss_one (ps_for PassesOwn.never rfl (pi_range1 (by rfl) TX.b_range (pa_cons pe_int pa_nil)) (pg_name (i := 5) sc_law.nd rfl (.inl rfl))
          (pss_one (ps_if (pt_not (pt_val (pe_callG ((fun _ => ok_L_right TX TB) TX) hgd (hr.mono (by decide)) (by rfl) TX.g_L_right TX.f_L_right.kp TX.bd_L_right .nil pass0 (pa_cons (pe_call (ok_L_take TX) (hr.mono (by decide)) (by rfl) TX.g_L_take TX.f_L_take.kp TX.bd_L_take .nil pass0 (pa_cons (pv 4) (pa_cons pe_int pa_nil))) (pa_cons (pe_call (ok_L_take TX) (hr.mono (by decide)) (by rfl) TX.g_L_take TX.f_L_take.kp TX.bd_L_take .nil pass0 (pa_cons (pv 4) (pa_cons pe_int pa_nil))) (pa_cons (pe_call (ok_L_take TX) (hr.mono (by decide)) (by rfl) TX.g_L_take TX.f_L_take.kp TX.bd_L_take .nil pass0 (pa_cons (pv 4) (pa_cons pe_int pa_nil))) pa_nil))))))
            (pss_one (ps_ret pe_bl))
            pss_nil))))))
      (pss_one (ps_ret pe_bl)))), ?_⟩
    have tb0 : LamX.Tabs (TTs TX) H := fun p hp => by
      rw [List.mem_singleton.mp hp]; exact LamX.TabS.nil (htab _ (List.mem_cons_self ..))
    refine ⟨sz60 (by simp), fun u0 m0 => ?_⟩
    have Q0 := Pr2.mk' (H := H) (t := u0) (x := 2) (y := 2) (by omega) (by omega)
    have y0 := same_upd (o := .tup [V.int 2, V.int 2]) m0
    have w0 : Same H _ := y0
    generalize upd H u0 _ = G0 at Q0 y0 w0 ⊢
    refine ⟨sz60 (by simp), fun u1 m1 => ?_⟩
    have Q1 := Pr2.mk' (H := G0) (t := u1) (x := 0) (y := 3) (by omega) (by omega)
    have y1 := same_upd (o := .tup [V.int 0, V.int 3]) m1
    have w1 : Same H _ := w0.trans y1
    generalize upd G0 u1 _ = G1 at Q1 y1 w1 ⊢
    refine ⟨sz60 (by simp), fun u2 m2 => ?_⟩
    have Q2 := Pr2.mk' (H := G1) (t := u2) (x := 3) (y := 0) (by omega) (by omega)
    have y2 := same_upd (o := .tup [V.int 3, V.int 0]) m2
    have w2 : Same H _ := w1.trans y2
    generalize upd G1 u2 _ = G2 at Q2 y2 w2 ⊢
    refine ⟨sz60 (by simp), fun u3 m3 => ?_⟩
    have Q3 := Pr2.mk' (H := G2) (t := u3) (x := 0) (y := 0) (by omega) (by omega)
    have y3 := same_upd (o := .tup [V.int 0, V.int 0]) m3
    have w3 : Same H _ := w2.trans y3
    generalize upd G2 u3 _ = G3 at Q3 y3 w3 ⊢
    refine ⟨sz60 (by simp), fun u4 m4 => ?_⟩
    have Q4 := Pr2.mk' (H := G3) (t := u4) (x := 6) (y := 6) (by omega) (by omega)
    have y4 := same_upd (o := .tup [V.int 6, V.int 6]) m4
    have w4 : Same H _ := w3.trans y4
    generalize upd G3 u4 _ = G4 at Q4 y4 w4 ⊢
    refine ⟨sz60 (by simp), fun l nl => ?_⟩
    have yl := same_upd (o := .lst [V.ref u0, V.ref u1, V.ref u2, V.ref u3, V.ref u4]) nl
    have hl := upd_same (H := G4) (a := l) (o := .lst [V.ref u0, V.ref u1, V.ref u2, V.ref u3, V.ref u4])
    have wl := w4.trans yl
    have R0 := ((((Q0.same y1).same y2).same y3).same y4).same yl
    have R1 := (((Q1.same y2).same y3).same y4).same yl
    have R2 := ((Q2.same y3).same y4).same yl
    have R3 := (Q3.same y4).same yl
    have R4 := Q4.same yl
    generalize upd G4 l _ = HL at *
    have hall : ∀ v, v ∈ [V.ref u0, V.ref u1, V.ref u2, V.ref u3, V.ref u4] → Pr2 HL v := fun v hv => by
      simp only [List.mem_cons, List.not_mem_nil, or_false] at hv
      rcases hv with rfl | rfl | rfl | rfl | rfl
      · exact R0
      · exact R1
      · exact R2
      · exact R3
      · exact R4
    clear Q0 R0 y0 m0 Q1 R1 y1 m1 Q2 R2 y2 m2 Q3 R3 y3 m3 Q4 R4 y4 m4 yl nl w0 w1 w2 w3 w4
    have x0 : LamX.ExtN H HL := .of wl
    have tbL := Tabs.same tb0 wl
    have hsysL := wl _ _ hsys
    refine ⟨l, rfl, ⟨_, .inl (.inl hl)⟩, for_list (K := K) (xs := [V.ref u0, V.ref u1, V.ref u2, V.ref u3, V.ref u4]) (fun j σ G => ∃ y1 y2 y3 y4 y5, σ = [some (.ref a), y1, y2, y3, y4, y5] ∧ LamX.ExtN HL G ∧ LamX.Tabs (TTs TX) G) ⟨_, _, _, _, _, rfl, .refl _, tbL⟩ (fun i σ H' _ h => by obtain ⟨_, _, _, _, _, _, h, _⟩ := h; exact .inl (.inl (h _ _ hl fun _ z => nomatch z))) ?_ ?_⟩
    · rintro j v σ G hv ⟨y1, y2, y3, y4, y5, rfl, xG, tbG⟩
      obtain ⟨qq, b, c, rfl, hq, hb, hc⟩ := hall v (List.mem_of_getElem? hv)
      refine ⟨qq, _, rfl, .inl (.inl (xG _ _ hq fun _ z => nomatch z)), rfl, _, _, rfl, _, _, rfl, rfl, ?_⟩
      refine ⟨_, rfl, _, rfl, 3, b, c, o, rfl, by omega, by omega, by omega, xG _ _ hsysL hot, hot, tbG, fun G' x' tb' => ⟨true, rfl, iteF ?_⟩⟩
      exact ⟨_, _, _, _, _, rfl, xG.trans x', tb'⟩
    rintro σ G ⟨y1, y2, y3, y4, y5, rfl, xG, tb1⟩
    have x1 := x0.trans xG
    clear tbL x0 hall hl tb0 wl xG hsysL
    refine ⟨.ref a, rfl, a, _, rfl, .inl (extN_seq x1 hS), _, _, rfl, _, _, rfl, _, rfl, ?_, ?_, ?_⟩
    · split <;> split <;> omega
    · split <;> split <;> omega
    refine for_range (lo := 0) (fun i σ G2 => ∃ y1 y2 y3 y4 y5, σ = [some (.ref a), y1, y2, y3, y4, y5] ∧ LamX.ExtN H G2 ∧ LamX.Tabs (TTs TX) G2) ⟨_, _, _, _, _, rfl, x1, tb1⟩ ?_ (fun σ H' _ => q H')
    clear x1 tb1
    rintro i σ G1 hi ⟨y1, y2, y3, y4, y5, rfl, x1, tb3⟩
    have hi2 : i ≤ 62 := nth2 _ rfl i hi
    have ei : (0 : Int) + (i : Nat) = (i : Int) := by omega
    rw [ei]
    refine ⟨.ref a, rfl, _, rfl, a, ns, i, rfl, extN_seq x1 hS, hi2, fun G2 p s2 np pp => ?_⟩
    have tb4 := Tabs.same tb3 s2
    refine ⟨_, rfl, by decide, by decide, for_range (lo := 0) (n := 3) (fun j σ G' => ∃ y1 y2 y5, σ = [some (.ref a), y1, y2, some (.int (i : Int)), some (.ref p), y5] ∧ ButN p G1 G' ∧ Pot G' p (10 * (j : Int)) ∧ LamX.Tabs (TTs TX) G') ⟨_, _, _, rfl, .same s2, pp.mono (by omega), tb4⟩ ?_ ?_⟩
    rotate_left
    · rintro σ G' ⟨y1, y2, y5, rfl, b6, p6, tb6⟩
      exact ⟨_, _, _, _, _, rfl, ButN.out1 x1 b6 np, tb6⟩
    rintro j σ G' hj ⟨y1, y2, y5, rfl, b6, p6, tb6⟩
    have hj8 : j < 3 := hj
    have nps : sysModules ≠ p := fun z => by rw [← z, x1 _ _ hsys hot] at np; cases np
    have hsysG := b6 _ _ nps (x1 _ _ hsys hot) hot
    refine ⟨.ref p, rfl, p, _, _, rfl, p6, by omega, by decide, by decide, fun H1 r1 b1 q1 a1 a2 => ?_⟩
    refine ⟨.ref p, rfl, p, _, _, rfl, q1, by omega, by decide, by decide, fun H2 r2 b2 q2 a3 a4 => ?_⟩
    refine ⟨.ref p, rfl, p, _, _, rfl, q2, by omega, by decide, by decide, fun H3 r3 b3 q3 a5 a6 => ?_⟩
    have b13 := b1.trans (b2.trans b3)
    have tb7 := p6.tabs tb6 b13
    refine ⟨r1.toNat, r2.toNat, r3.toNat, o, ?_, by omega, by omega, by omega, b13 _ _ nps hsysG, hot, tb7, fun H4 x4 tb8 => ⟨true, rfl, iteF ?_⟩⟩
    · rw [show ((r1.toNat : Nat) : Int) = r1 by omega, show ((r2.toNat : Nat) : Int) = r2 by omega, show ((r3.toNat : Nat) : Int) = r3 by omega]; rfl
    exact ⟨_, _, _, rfl, b6.trans ((ButN.of b13).trans (.ext x4)), (q3.ext x4).mono (by omega), tb8⟩
end
theorem all_mk {l : PySem.W.OpenLaw} {w : World} {K : PySem.W.Frag} {h : Heap} {mg : Str → Option Value} {fa : Addr} (X : K.In h) (G : h.Ns mainGlobals mg) (hfa : mg "law" = some (.ref fa))
    {f_is_int : Addr} {od_is_int an_is_int : Option Addr} {sl_is_int : Array (Option Value)} {oc_is_int kV_is_int dc_is_int pm_is_int cd_is_int ct_is_int : Value}
    (a_is_int : PySem.W.nsIn K mainGlobals "is_int" = some (some (.ref f_is_int))) (l_is_int : K.lookup f_is_int = some ⟨oc_is_int, od_is_int, .func (PySem.W.fnOf "is_int" "is_int" (defArgs s_is_int) (defBody s_is_int) (defScope s_is_int) .none kV_is_int dc_is_int pm_is_int an_is_int cd_is_int ct_is_int), sl_is_int⟩) (c_is_int : PySem.W.codeIn K cd_is_int "is_int" = true) (k_is_int : PySem.W.keepIn K (.ref f_is_int) = true)
    {f_is_count : Addr} {od_is_count an_is_count : Option Addr} {sl_is_count : Array (Option Value)} {oc_is_count kV_is_count dc_is_count pm_is_count cd_is_count ct_is_count : Value}
    (a_is_count : PySem.W.nsIn K mainGlobals "is_count" = some (some (.ref f_is_count))) (l_is_count : K.lookup f_is_count = some ⟨oc_is_count, od_is_count, .func (PySem.W.fnOf "is_count" "is_count" (defArgs s_is_count) (defBody s_is_count) (defScope s_is_count) .none kV_is_count dc_is_count pm_is_count an_is_count cd_is_count ct_is_count), sl_is_count⟩) (c_is_count : PySem.W.codeIn K cd_is_count "is_count" = true) (k_is_count : PySem.W.keepIn K (.ref f_is_count) = true)
    {f_is_count_up_to : Addr} {od_is_count_up_to an_is_count_up_to : Option Addr} {sl_is_count_up_to : Array (Option Value)} {oc_is_count_up_to kV_is_count_up_to dc_is_count_up_to pm_is_count_up_to cd_is_count_up_to ct_is_count_up_to : Value}
    (a_is_count_up_to : PySem.W.nsIn K mainGlobals "is_count_up_to" = some (some (.ref f_is_count_up_to))) (l_is_count_up_to : K.lookup f_is_count_up_to = some ⟨oc_is_count_up_to, od_is_count_up_to, .func (PySem.W.fnOf "is_count_up_to" "is_count_up_to" (defArgs s_is_count_up_to) (defBody s_is_count_up_to) (defScope s_is_count_up_to) .none kV_is_count_up_to dc_is_count_up_to pm_is_count_up_to an_is_count_up_to cd_is_count_up_to ct_is_count_up_to), sl_is_count_up_to⟩) (c_is_count_up_to : PySem.W.codeIn K cd_is_count_up_to "is_count_up_to" = true) (k_is_count_up_to : PySem.W.keepIn K (.ref f_is_count_up_to) = true)
    {f_check_budgets : Addr} {od_check_budgets an_check_budgets : Option Addr} {sl_check_budgets : Array (Option Value)} {oc_check_budgets kV_check_budgets dc_check_budgets pm_check_budgets cd_check_budgets ct_check_budgets : Value}
    (a_check_budgets : PySem.W.nsIn K mainGlobals "check_budgets" = some (some (.ref f_check_budgets))) (l_check_budgets : K.lookup f_check_budgets = some ⟨oc_check_budgets, od_check_budgets, .func (PySem.W.fnOf "check_budgets" "check_budgets" (defArgs s_check_budgets) (defBody s_check_budgets) (defScope s_check_budgets) .none kV_check_budgets dc_check_budgets pm_check_budgets an_check_budgets cd_check_budgets ct_check_budgets), sl_check_budgets⟩) (c_check_budgets : PySem.W.codeIn K cd_check_budgets "check_budgets" = true) (k_check_budgets : PySem.W.keepIn K (.ref f_check_budgets) = true)
    {f_is_schedule : Addr} {od_is_schedule an_is_schedule : Option Addr} {sl_is_schedule : Array (Option Value)} {oc_is_schedule kV_is_schedule dc_is_schedule pm_is_schedule cd_is_schedule ct_is_schedule : Value}
    (a_is_schedule : PySem.W.nsIn K mainGlobals "is_schedule" = some (some (.ref f_is_schedule))) (l_is_schedule : K.lookup f_is_schedule = some ⟨oc_is_schedule, od_is_schedule, .func (PySem.W.fnOf "is_schedule" "is_schedule" (defArgs s_is_schedule) (defBody s_is_schedule) (defScope s_is_schedule) .none kV_is_schedule dc_is_schedule pm_is_schedule an_is_schedule cd_is_schedule ct_is_schedule), sl_is_schedule⟩) (c_is_schedule : PySem.W.codeIn K cd_is_schedule "is_schedule" = true) (k_is_schedule : PySem.W.keepIn K (.ref f_is_schedule) = true)
    {f_stacks : Addr} {od_stacks an_stacks : Option Addr} {sl_stacks : Array (Option Value)} {oc_stacks kV_stacks dc_stacks pm_stacks cd_stacks ct_stacks : Value}
    (a_stacks : PySem.W.nsIn K mainGlobals "stacks" = some (some (.ref f_stacks))) (l_stacks : K.lookup f_stacks = some ⟨oc_stacks, od_stacks, .func (PySem.W.fnOf "stacks" "stacks" (defArgs s_stacks) (defBody s_stacks) (defScope s_stacks) .none kV_stacks dc_stacks pm_stacks an_stacks cd_stacks ct_stacks), sl_stacks⟩) (c_stacks : PySem.W.codeIn K cd_stacks "stacks" = true) (k_stacks : PySem.W.keepIn K (.ref f_stacks) = true)
    {f_stack_after : Addr} {od_stack_after an_stack_after : Option Addr} {sl_stack_after : Array (Option Value)} {oc_stack_after kV_stack_after dc_stack_after pm_stack_after cd_stack_after ct_stack_after : Value}
    (a_stack_after : PySem.W.nsIn K mainGlobals "stack_after" = some (some (.ref f_stack_after))) (l_stack_after : K.lookup f_stack_after = some ⟨oc_stack_after, od_stack_after, .func (PySem.W.fnOf "stack_after" "stack_after" (defArgs s_stack_after) (defBody s_stack_after) (defScope s_stack_after) .none kV_stack_after dc_stack_after pm_stack_after an_stack_after cd_stack_after ct_stack_after), sl_stack_after⟩) (c_stack_after : PySem.W.codeIn K cd_stack_after "stack_after" = true) (k_stack_after : PySem.W.keepIn K (.ref f_stack_after) = true)
    {f_writes : Addr} {od_writes an_writes : Option Addr} {sl_writes : Array (Option Value)} {oc_writes kV_writes dc_writes pm_writes cd_writes ct_writes : Value}
    (a_writes : PySem.W.nsIn K mainGlobals "writes" = some (some (.ref f_writes))) (l_writes : K.lookup f_writes = some ⟨oc_writes, od_writes, .func (PySem.W.fnOf "writes" "writes" (defArgs s_writes) (defBody s_writes) (defScope s_writes) .none kV_writes dc_writes pm_writes an_writes cd_writes ct_writes), sl_writes⟩) (c_writes : PySem.W.codeIn K cd_writes "writes" = true) (k_writes : PySem.W.keepIn K (.ref f_writes) = true)
    {f_run_counts : Addr} {od_run_counts an_run_counts : Option Addr} {sl_run_counts : Array (Option Value)} {oc_run_counts kV_run_counts dc_run_counts pm_run_counts cd_run_counts ct_run_counts : Value}
    (a_run_counts : PySem.W.nsIn K mainGlobals "run_counts" = some (some (.ref f_run_counts))) (l_run_counts : K.lookup f_run_counts = some ⟨oc_run_counts, od_run_counts, .func (PySem.W.fnOf "run_counts" "run_counts" (defArgs s_run_counts) (defBody s_run_counts) (defScope s_run_counts) .none kV_run_counts dc_run_counts pm_run_counts an_run_counts cd_run_counts ct_run_counts), sl_run_counts⟩) (c_run_counts : PySem.W.codeIn K cd_run_counts "run_counts" = true) (k_run_counts : PySem.W.keepIn K (.ref f_run_counts) = true)
    {f_runs_at_end : Addr} {od_runs_at_end an_runs_at_end : Option Addr} {sl_runs_at_end : Array (Option Value)} {oc_runs_at_end kV_runs_at_end dc_runs_at_end pm_runs_at_end cd_runs_at_end ct_runs_at_end : Value}
    (a_runs_at_end : PySem.W.nsIn K mainGlobals "runs_at_end" = some (some (.ref f_runs_at_end))) (l_runs_at_end : K.lookup f_runs_at_end = some ⟨oc_runs_at_end, od_runs_at_end, .func (PySem.W.fnOf "runs_at_end" "runs_at_end" (defArgs s_runs_at_end) (defBody s_runs_at_end) (defScope s_runs_at_end) .none kV_runs_at_end dc_runs_at_end pm_runs_at_end an_runs_at_end cd_runs_at_end ct_runs_at_end), sl_runs_at_end⟩) (c_runs_at_end : PySem.W.codeIn K cd_runs_at_end "runs_at_end" = true) (k_runs_at_end : PySem.W.keepIn K (.ref f_runs_at_end) = true)
    {f_check_flushes : Addr} {od_check_flushes an_check_flushes : Option Addr} {sl_check_flushes : Array (Option Value)} {oc_check_flushes kV_check_flushes dc_check_flushes pm_check_flushes cd_check_flushes ct_check_flushes : Value}
    (a_check_flushes : PySem.W.nsIn K mainGlobals "check_flushes" = some (some (.ref f_check_flushes))) (l_check_flushes : K.lookup f_check_flushes = some ⟨oc_check_flushes, od_check_flushes, .func (PySem.W.fnOf "check_flushes" "check_flushes" (defArgs s_check_flushes) (defBody s_check_flushes) (defScope s_check_flushes) .none kV_check_flushes dc_check_flushes pm_check_flushes an_check_flushes cd_check_flushes ct_check_flushes), sl_check_flushes⟩) (c_check_flushes : PySem.W.codeIn K cd_check_flushes "check_flushes" = true) (k_check_flushes : PySem.W.keepIn K (.ref f_check_flushes) = true)
    {f_counts_within : Addr} {od_counts_within an_counts_within : Option Addr} {sl_counts_within : Array (Option Value)} {oc_counts_within kV_counts_within dc_counts_within pm_counts_within cd_counts_within ct_counts_within : Value}
    (a_counts_within : PySem.W.nsIn K mainGlobals "counts_within" = some (some (.ref f_counts_within))) (l_counts_within : K.lookup f_counts_within = some ⟨oc_counts_within, od_counts_within, .func (PySem.W.fnOf "counts_within" "counts_within" (defArgs s_counts_within) (defBody s_counts_within) (defScope s_counts_within) .none kV_counts_within dc_counts_within pm_counts_within an_counts_within cd_counts_within ct_counts_within), sl_counts_within⟩) (c_counts_within : PySem.W.codeIn K cd_counts_within "counts_within" = true) (k_counts_within : PySem.W.keepIn K (.ref f_counts_within) = true)
    {f_counts_by_size : Addr} {od_counts_by_size an_counts_by_size : Option Addr} {sl_counts_by_size : Array (Option Value)} {oc_counts_by_size kV_counts_by_size dc_counts_by_size pm_counts_by_size cd_counts_by_size ct_counts_by_size : Value}
    (a_counts_by_size : PySem.W.nsIn K mainGlobals "counts_by_size" = some (some (.ref f_counts_by_size))) (l_counts_by_size : K.lookup f_counts_by_size = some ⟨oc_counts_by_size, od_counts_by_size, .func (PySem.W.fnOf "counts_by_size" "counts_by_size" (defArgs s_counts_by_size) (defBody s_counts_by_size) (defScope s_counts_by_size) .none kV_counts_by_size dc_counts_by_size pm_counts_by_size an_counts_by_size cd_counts_by_size ct_counts_by_size), sl_counts_by_size⟩) (c_counts_by_size : PySem.W.codeIn K cd_counts_by_size "counts_by_size" = true) (k_counts_by_size : PySem.W.keepIn K (.ref f_counts_by_size) = true)
    {f_index_within : Addr} {od_index_within an_index_within : Option Addr} {sl_index_within : Array (Option Value)} {oc_index_within kV_index_within dc_index_within pm_index_within cd_index_within ct_index_within : Value}
    (a_index_within : PySem.W.nsIn K mainGlobals "index_within" = some (some (.ref f_index_within))) (l_index_within : K.lookup f_index_within = some ⟨oc_index_within, od_index_within, .func (PySem.W.fnOf "index_within" "index_within" (defArgs s_index_within) (defBody s_index_within) (defScope s_index_within) .none kV_index_within dc_index_within pm_index_within an_index_within cd_index_within ct_index_within), sl_index_within⟩) (c_index_within : PySem.W.codeIn K cd_index_within "index_within" = true) (k_index_within : PySem.W.keepIn K (.ref f_index_within) = true)
    {f_place_of : Addr} {od_place_of an_place_of : Option Addr} {sl_place_of : Array (Option Value)} {oc_place_of kV_place_of dc_place_of pm_place_of cd_place_of ct_place_of : Value}
    (a_place_of : PySem.W.nsIn K mainGlobals "place_of" = some (some (.ref f_place_of))) (l_place_of : K.lookup f_place_of = some ⟨oc_place_of, od_place_of, .func (PySem.W.fnOf "place_of" "place_of" (defArgs s_place_of) (defBody s_place_of) (defScope s_place_of) .none kV_place_of dc_place_of pm_place_of an_place_of cd_place_of ct_place_of), sl_place_of⟩) (c_place_of : PySem.W.codeIn K cd_place_of "place_of" = true) (k_place_of : PySem.W.keepIn K (.ref f_place_of) = true)
    {f_root_of : Addr} {od_root_of an_root_of : Option Addr} {sl_root_of : Array (Option Value)} {oc_root_of kV_root_of dc_root_of pm_root_of cd_root_of ct_root_of : Value}
    (a_root_of : PySem.W.nsIn K mainGlobals "root_of" = some (some (.ref f_root_of))) (l_root_of : K.lookup f_root_of = some ⟨oc_root_of, od_root_of, .func (PySem.W.fnOf "root_of" "root_of" (defArgs s_root_of) (defBody s_root_of) (defScope s_root_of) .none kV_root_of dc_root_of pm_root_of an_root_of cd_root_of ct_root_of), sl_root_of⟩) (c_root_of : PySem.W.codeIn K cd_root_of "root_of" = true) (k_root_of : PySem.W.keepIn K (.ref f_root_of) = true)
    {f_schedule_within : Addr} {od_schedule_within an_schedule_within : Option Addr} {sl_schedule_within : Array (Option Value)} {oc_schedule_within kV_schedule_within dc_schedule_within pm_schedule_within cd_schedule_within ct_schedule_within : Value}
    (a_schedule_within : PySem.W.nsIn K mainGlobals "schedule_within" = some (some (.ref f_schedule_within))) (l_schedule_within : K.lookup f_schedule_within = some ⟨oc_schedule_within, od_schedule_within, .func (PySem.W.fnOf "schedule_within" "schedule_within" (defArgs s_schedule_within) (defBody s_schedule_within) (defScope s_schedule_within) .none kV_schedule_within dc_schedule_within pm_schedule_within an_schedule_within cd_schedule_within ct_schedule_within), sl_schedule_within⟩) (c_schedule_within : PySem.W.codeIn K cd_schedule_within "schedule_within" = true) (k_schedule_within : PySem.W.keepIn K (.ref f_schedule_within) = true)
    {f_schedule_in_place : Addr} {od_schedule_in_place an_schedule_in_place : Option Addr} {sl_schedule_in_place : Array (Option Value)} {oc_schedule_in_place kV_schedule_in_place dc_schedule_in_place pm_schedule_in_place cd_schedule_in_place ct_schedule_in_place : Value}
    (a_schedule_in_place : PySem.W.nsIn K mainGlobals "schedule_in_place" = some (some (.ref f_schedule_in_place))) (l_schedule_in_place : K.lookup f_schedule_in_place = some ⟨oc_schedule_in_place, od_schedule_in_place, .func (PySem.W.fnOf "schedule_in_place" "schedule_in_place" (defArgs s_schedule_in_place) (defBody s_schedule_in_place) (defScope s_schedule_in_place) .none kV_schedule_in_place dc_schedule_in_place pm_schedule_in_place an_schedule_in_place cd_schedule_in_place ct_schedule_in_place), sl_schedule_in_place⟩) (c_schedule_in_place : PySem.W.codeIn K cd_schedule_in_place "schedule_in_place" = true) (k_schedule_in_place : PySem.W.keepIn K (.ref f_schedule_in_place) = true)
    {f_L_pot : Addr} {od_L_pot an_L_pot : Option Addr} {sl_L_pot : Array (Option Value)} {oc_L_pot kV_L_pot dc_L_pot pm_L_pot cd_L_pot ct_L_pot : Value}
    (a_L_pot : PySem.W.nsIn K mainGlobals "_law_sched_pot" = some (some (.ref f_L_pot))) (l_L_pot : K.lookup f_L_pot = some ⟨oc_L_pot, od_L_pot, .func (PySem.W.fnOf "_law_sched_pot" "_law_sched_pot" (defArgs s_L_pot) (defBody s_L_pot) (defScope s_L_pot) .none kV_L_pot dc_L_pot pm_L_pot an_L_pot cd_L_pot ct_L_pot), sl_L_pot⟩) (c_L_pot : PySem.W.codeIn K cd_L_pot "_law_sched_pot" = true) (k_L_pot : PySem.W.keepIn K (.ref f_L_pot) = true)
    {f_L_take : Addr} {od_L_take an_L_take : Option Addr} {sl_L_take : Array (Option Value)} {oc_L_take kV_L_take dc_L_take pm_L_take cd_L_take ct_L_take : Value}
    (a_L_take : PySem.W.nsIn K mainGlobals "_law_sched_take" = some (some (.ref f_L_take))) (l_L_take : K.lookup f_L_take = some ⟨oc_L_take, od_L_take, .func (PySem.W.fnOf "_law_sched_take" "_law_sched_take" (defArgs s_L_take) (defBody s_L_take) (defScope s_L_take) .none kV_L_take dc_L_take pm_L_take an_L_take cd_L_take ct_L_take), sl_L_take⟩) (c_L_take : PySem.W.codeIn K cd_L_take "_law_sched_take" = true) (k_L_take : PySem.W.keepIn K (.ref f_L_take) = true)
    {f_L_piles : Addr} {od_L_piles an_L_piles : Option Addr} {sl_L_piles : Array (Option Value)} {oc_L_piles kV_L_piles dc_L_piles pm_L_piles cd_L_piles ct_L_piles : Value}
    (a_L_piles : PySem.W.nsIn K mainGlobals "_law_sched_piles" = some (some (.ref f_L_piles))) (l_L_piles : K.lookup f_L_piles = some ⟨oc_L_piles, od_L_piles, .func (PySem.W.fnOf "_law_sched_piles" "_law_sched_piles" (defArgs s_L_piles) (defBody s_L_piles) (defScope s_L_piles) .none kV_L_piles dc_L_piles pm_L_piles an_L_piles cd_L_piles ct_L_piles), sl_L_piles⟩) (c_L_piles : PySem.W.codeIn K cd_L_piles "_law_sched_piles" = true) (k_L_piles : PySem.W.keepIn K (.ref f_L_piles) = true)
    {f_L_written : Addr} {od_L_written an_L_written : Option Addr} {sl_L_written : Array (Option Value)} {oc_L_written kV_L_written dc_L_written pm_L_written cd_L_written ct_L_written : Value}
    (a_L_written : PySem.W.nsIn K mainGlobals "_law_sched_written" = some (some (.ref f_L_written))) (l_L_written : K.lookup f_L_written = some ⟨oc_L_written, od_L_written, .func (PySem.W.fnOf "_law_sched_written" "_law_sched_written" (defArgs s_L_written) (defBody s_L_written) (defScope s_L_written) .none kV_L_written dc_L_written pm_L_written an_L_written cd_L_written ct_L_written), sl_L_written⟩) (c_L_written : PySem.W.codeIn K cd_L_written "_law_sched_written" = true) (k_L_written : PySem.W.keepIn K (.ref f_L_written) = true)
    {f_L_all : Addr} {od_L_all an_L_all : Option Addr} {sl_L_all : Array (Option Value)} {oc_L_all kV_L_all dc_L_all pm_L_all cd_L_all ct_L_all : Value}
    (a_L_all : PySem.W.nsIn K mainGlobals "_law_sched_all" = some (some (.ref f_L_all))) (l_L_all : K.lookup f_L_all = some ⟨oc_L_all, od_L_all, .func (PySem.W.fnOf "_law_sched_all" "_law_sched_all" (defArgs s_L_all) (defBody s_L_all) (defScope s_L_all) .none kV_L_all dc_L_all pm_L_all an_L_all cd_L_all ct_L_all), sl_L_all⟩) (c_L_all : PySem.W.codeIn K cd_L_all "_law_sched_all" = true) (k_L_all : PySem.W.keepIn K (.ref f_L_all) = true)
    {f_L_root : Addr} {od_L_root an_L_root : Option Addr} {sl_L_root : Array (Option Value)} {oc_L_root kV_L_root dc_L_root pm_L_root cd_L_root ct_L_root : Value}
    (a_L_root : PySem.W.nsIn K mainGlobals "_law_sched_root" = some (some (.ref f_L_root))) (l_L_root : K.lookup f_L_root = some ⟨oc_L_root, od_L_root, .func (PySem.W.fnOf "_law_sched_root" "_law_sched_root" (defArgs s_L_root) (defBody s_L_root) (defScope s_L_root) .none kV_L_root dc_L_root pm_L_root an_L_root cd_L_root ct_L_root), sl_L_root⟩) (c_L_root : PySem.W.codeIn K cd_L_root "_law_sched_root" = true) (k_L_root : PySem.W.keepIn K (.ref f_L_root) = true)
    {f_L_refusal : Addr} {od_L_refusal an_L_refusal : Option Addr} {sl_L_refusal : Array (Option Value)} {oc_L_refusal kV_L_refusal dc_L_refusal pm_L_refusal cd_L_refusal ct_L_refusal : Value}
    (a_L_refusal : PySem.W.nsIn K mainGlobals "_law_sched_refusal" = some (some (.ref f_L_refusal))) (l_L_refusal : K.lookup f_L_refusal = some ⟨oc_L_refusal, od_L_refusal, .func (PySem.W.fnOf "_law_sched_refusal" "_law_sched_refusal" (defArgs s_L_refusal) (defBody s_L_refusal) (defScope s_L_refusal) .none kV_L_refusal dc_L_refusal pm_L_refusal an_L_refusal cd_L_refusal ct_L_refusal), sl_L_refusal⟩) (c_L_refusal : PySem.W.codeIn K cd_L_refusal "_law_sched_refusal" = true) (k_L_refusal : PySem.W.keepIn K (.ref f_L_refusal) = true)
    {f_L_within : Addr} {od_L_within an_L_within : Option Addr} {sl_L_within : Array (Option Value)} {oc_L_within kV_L_within dc_L_within pm_L_within cd_L_within ct_L_within : Value}
    (a_L_within : PySem.W.nsIn K mainGlobals "_law_sched_within" = some (some (.ref f_L_within))) (l_L_within : K.lookup f_L_within = some ⟨oc_L_within, od_L_within, .func (PySem.W.fnOf "_law_sched_within" "_law_sched_within" (defArgs s_L_within) (defBody s_L_within) (defScope s_L_within) .none kV_L_within dc_L_within pm_L_within an_L_within cd_L_within ct_L_within), sl_L_within⟩) (c_L_within : PySem.W.codeIn K cd_L_within "_law_sched_within" = true) (k_L_within : PySem.W.keepIn K (.ref f_L_within) = true)
    {f_L_key : Addr} {od_L_key an_L_key : Option Addr} {sl_L_key : Array (Option Value)} {oc_L_key kV_L_key dc_L_key pm_L_key cd_L_key ct_L_key : Value}
    (a_L_key : PySem.W.nsIn K mainGlobals "_law_sched_key" = some (some (.ref f_L_key))) (l_L_key : K.lookup f_L_key = some ⟨oc_L_key, od_L_key, .func (PySem.W.fnOf "_law_sched_key" "_law_sched_key" (defArgs s_L_key) (defBody s_L_key) (defScope s_L_key) .none kV_L_key dc_L_key pm_L_key an_L_key cd_L_key ct_L_key), sl_L_key⟩) (c_L_key : PySem.W.codeIn K cd_L_key "_law_sched_key" = true) (k_L_key : PySem.W.keepIn K (.ref f_L_key) = true)
    {f_L_right : Addr} {od_L_right an_L_right : Option Addr} {sl_L_right : Array (Option Value)} {oc_L_right kV_L_right dc_L_right pm_L_right ct_L_right : Value} {cdA_L_right : Addr}
    (a_L_right : PySem.W.nsIn K mainGlobals "_law_sched_right" = some (some (.ref f_L_right))) (l_L_right : K.lookup f_L_right = some ⟨oc_L_right, od_L_right, .func (PySem.W.fnOf "_law_sched_right" "_law_sched_right" (defArgs s_L_right) (defBody s_L_right) (defScope s_L_right) .none kV_L_right dc_L_right pm_L_right an_L_right (.ref cdA_L_right) ct_L_right), sl_L_right⟩) (c_L_right : PySem.W.codeIn K (.ref cdA_L_right) "_law_sched_right" = true) (k_L_right : PySem.W.keepIn K (.ref f_L_right) = true)
    {f_law : Addr} {od_law an_law : Option Addr} {sl_law : Array (Option Value)} {oc_law kV_law dc_law pm_law cd_law ct_law : Value}
    (a_law : PySem.W.nsIn K mainGlobals "law" = some (some (.ref f_law))) (l_law : K.lookup f_law = some ⟨oc_law, od_law, .func (PySem.W.fnOf "law" "law" (defArgs s_law) (defBody s_law) (defScope s_law) .none kV_law dc_law pm_law an_law cd_law ct_law), sl_law⟩) (c_law : PySem.W.codeIn K cd_law "law" = true) (k_law : PySem.W.keepIn K (.ref f_law) = true)
    {ptA_L_right : Addr} (tbA : ∀ P ∈ [ptA_L_right], h.get? P = some (PySem.W.tabObj #[]))
    (hdA_L_right : PySem.W.codeHdIn K cdA_L_right ptA_L_right = true) (ntA_L_right : K.lookup ptA_L_right = none) (nyA_L_right : decide (cdA_L_right ≠ sysModules ∧ ptA_L_right ≠ sysModules) = true)
    (z_isinstance : PySem.W.nsIn K mainGlobals "isinstance" = some none)
    (z_int : PySem.W.nsIn K mainGlobals "int" = some none)
    (z_bool : PySem.W.nsIn K mainGlobals "bool" = some none)
    (z_tuple : PySem.W.nsIn K mainGlobals "tuple" = some none)
    (z_len : PySem.W.nsIn K mainGlobals "len" = some none)
    (z_enumerate : PySem.W.nsIn K mainGlobals "enumerate" = some none)
    (z_range : PySem.W.nsIn K mainGlobals "range" = some none)
    (z_sum : PySem.W.nsIn K mainGlobals "sum" = some none)
    (z_max : PySem.W.nsIn K mainGlobals "max" = some none)
    (z_zip : PySem.W.nsIn K mainGlobals "zip" = some none)
    (z_divmod : PySem.W.nsIn K mainGlobals "divmod" = some none)
    (z_abs : PySem.W.nsIn K mainGlobals "abs" = some none)
    (z_list : PySem.W.nsIn K mainGlobals "list" = some none)
    (z_repr : PySem.W.nsIn K mainGlobals "repr" = some none)
    (z_ValueError : PySem.W.nsIn K mainGlobals "ValueError" = some none)
    (z_any : PySem.W.nsIn K mainGlobals "any" = some none)
    (z_all : PySem.W.nsIn K mainGlobals "all" = some none)
    (z_sorted : PySem.W.nsIn K mainGlobals "sorted" = some none)
    (z_min : PySem.W.nsIn K mainGlobals "min" = some none)
    {t_MOST_BUDGET : Tok} (y_MOST_BUDGET : PySem.W.nsIn K mainGlobals "MOST_BUDGET" = some (some (.int (60) t_MOST_BUDGET)))
    {t_MOST_FLUSHES : Tok} (y_MOST_FLUSHES : PySem.W.nsIn K mainGlobals "MOST_FLUSHES" = some (some (.int (60) t_MOST_FLUSHES)))
    {C_MergeBudgetError : Addr} (ac_MergeBudgetError : PySem.W.nsIn K mainGlobals "MergeBudgetError" = some (some (.ref C_MergeBudgetError))) (kc_MergeBudgetError : PySem.W.keepIn K (.ref C_MergeBudgetError) = true) {kd_MergeBudgetError : ClassData} (kl_MergeBudgetError : PySem.W.clsIn K C_MergeBudgetError = some kd_MergeBudgetError) (kt_MergeBudgetError : PySem.W.typeIn K (.ref C_MergeBudgetError) = some (.type "type"))
    (xp_MergeBudgetError : PySem.W.findIn K (.ref C_MergeBudgetError) "__getattribute__" = some (some (.builtin "BaseException.__getattribute__"))) (xq_MergeBudgetError : PySem.W.findIn K (.ref C_MergeBudgetError) "__getattr__" = some none) (xr_MergeBudgetError : PySem.W.subIn K (.ref C_MergeBudgetError) (.type "BaseException") = some true) (xs_MergeBudgetError : PySem.W.hasDictIn K C_MergeBudgetError = true) (xt_MergeBudgetError : PySem.W.findIn K (.ref C_MergeBudgetError) "__class__" = some (some (.builtin "object.__class__"))) (xu_MergeBudgetError : PySem.W.mroIn K C_MergeBudgetError (.type "object") = some true)
    (xi_MergeBudgetError : PySem.W.excIn K C_MergeBudgetError PySem.HandSPX.veTail "ValueError.__new__" = true)
    {C_InvalidSchedule : Addr} (ac_InvalidSchedule : PySem.W.nsIn K mainGlobals "InvalidSchedule" = some (some (.ref C_InvalidSchedule))) (kc_InvalidSchedule : PySem.W.keepIn K (.ref C_InvalidSchedule) = true) {kd_InvalidSchedule : ClassData} (kl_InvalidSchedule : PySem.W.clsIn K C_InvalidSchedule = some kd_InvalidSchedule) (kt_InvalidSchedule : PySem.W.typeIn K (.ref C_InvalidSchedule) = some (.type "type"))
    (xp_InvalidSchedule : PySem.W.findIn K (.ref C_InvalidSchedule) "__getattribute__" = some (some (.builtin "BaseException.__getattribute__"))) (xq_InvalidSchedule : PySem.W.findIn K (.ref C_InvalidSchedule) "__getattr__" = some none) (xr_InvalidSchedule : PySem.W.subIn K (.ref C_InvalidSchedule) (.type "BaseException") = some true) (xs_InvalidSchedule : PySem.W.hasDictIn K C_InvalidSchedule = true) (xt_InvalidSchedule : PySem.W.findIn K (.ref C_InvalidSchedule) "__class__" = some (some (.builtin "object.__class__"))) (xu_InvalidSchedule : PySem.W.mroIn K C_InvalidSchedule (.type "object") = some true)
    {nm_InvalidSchedule q_InvalidSchedule : Str} {N_InvalidSchedule : Addr} {bs_InvalidSchedule bm_InvalidSchedule : List Value} {sn_InvalidSchedule : _} {sub_InvalidSchedule : _} {ab_InvalidSchedule : _} {col_InvalidSchedule : _} {dd_InvalidSchedule : _} {k0_InvalidSchedule : _} {k1_InvalidSchedule : _} {k2_InvalidSchedule : _} {k3_InvalidSchedule : _} {k5_InvalidSchedule : _}
    (xL_InvalidSchedule : K.lookup C_InvalidSchedule = some (excClassObj nm_InvalidSchedule q_InvalidSchedule C_InvalidSchedule N_InvalidSchedule bs_InvalidSchedule bm_InvalidSchedule true sn_InvalidSchedule sub_InvalidSchedule ab_InvalidSchedule col_InvalidSchedule dd_InvalidSchedule k0_InvalidSchedule k1_InvalidSchedule k2_InvalidSchedule k3_InvalidSchedule k5_InvalidSchedule "ValueError.__new__")) (rv_InvalidSchedule : PySem.HandSPX.refsVE bm_InvalidSchedule = true)
    {I_InvalidSchedule : Addr} {iod_InvalidSchedule ian_InvalidSchedule : Option Addr} {isl_InvalidSchedule : Array (Option Value)} {ioc_InvalidSchedule ikV_InvalidSchedule idc_InvalidSchedule ipm_InvalidSchedule icd_InvalidSchedule ict_InvalidSchedule : Value}
    (ic_InvalidSchedule : PySem.W.findIn K (.ref C_InvalidSchedule) "__init__" = some (some (.ref I_InvalidSchedule))) (oa_InvalidSchedule : PySem.W.findIn K (.ref C_InvalidSchedule) "__setattr__" = some (some (.builtin "object.__setattr__"))) (oe_InvalidSchedule : PySem.W.findIn K (.ref C_InvalidSchedule) "value" = some none) (of_InvalidSchedule : PySem.W.typeIn K (.ref I_InvalidSchedule) = some (.type "function"))
    (il_InvalidSchedule : K.lookup I_InvalidSchedule = some ⟨ioc_InvalidSchedule, iod_InvalidSchedule, .func (PySem.W.fnOf "__init__" "InvalidSchedule.__init__" (defArgs s_init_InvalidSchedule) (defBody s_init_InvalidSchedule) (defScope s_init_InvalidSchedule) .none ikV_InvalidSchedule idc_InvalidSchedule ipm_InvalidSchedule ian_InvalidSchedule icd_InvalidSchedule ict_InvalidSchedule), isl_InvalidSchedule⟩) (ie_InvalidSchedule : PySem.W.codeIn K icd_InvalidSchedule "InvalidSchedule.__init__" = true) (ik_InvalidSchedule : PySem.W.keepIn K (.ref I_InvalidSchedule) = true)
    {C_InvalidTree : Addr} (ac_InvalidTree : PySem.W.nsIn K mainGlobals "InvalidTree" = some (some (.ref C_InvalidTree))) (kc_InvalidTree : PySem.W.keepIn K (.ref C_InvalidTree) = true) {kd_InvalidTree : ClassData} (kl_InvalidTree : PySem.W.clsIn K C_InvalidTree = some kd_InvalidTree) (kt_InvalidTree : PySem.W.typeIn K (.ref C_InvalidTree) = some (.type "type"))
    (xp_InvalidTree : PySem.W.findIn K (.ref C_InvalidTree) "__getattribute__" = some (some (.builtin "BaseException.__getattribute__"))) (xq_InvalidTree : PySem.W.findIn K (.ref C_InvalidTree) "__getattr__" = some none) (xr_InvalidTree : PySem.W.subIn K (.ref C_InvalidTree) (.type "BaseException") = some true) (xs_InvalidTree : PySem.W.hasDictIn K C_InvalidTree = true) (xt_InvalidTree : PySem.W.findIn K (.ref C_InvalidTree) "__class__" = some (some (.builtin "object.__class__"))) (xu_InvalidTree : PySem.W.mroIn K C_InvalidTree (.type "object") = some true)
    {nm_InvalidTree q_InvalidTree : Str} {N_InvalidTree : Addr} {bs_InvalidTree bm_InvalidTree : List Value} {sn_InvalidTree : _} {sub_InvalidTree : _} {ab_InvalidTree : _} {col_InvalidTree : _} {dd_InvalidTree : _} {k0_InvalidTree : _} {k1_InvalidTree : _} {k2_InvalidTree : _} {k3_InvalidTree : _} {k5_InvalidTree : _}
    (xL_InvalidTree : K.lookup C_InvalidTree = some (excClassObj nm_InvalidTree q_InvalidTree C_InvalidTree N_InvalidTree bs_InvalidTree bm_InvalidTree true sn_InvalidTree sub_InvalidTree ab_InvalidTree col_InvalidTree dd_InvalidTree k0_InvalidTree k1_InvalidTree k2_InvalidTree k3_InvalidTree k5_InvalidTree "ValueError.__new__")) (rv_InvalidTree : PySem.HandSPX.refsVE bm_InvalidTree = true)
    {I_InvalidTree : Addr} {iod_InvalidTree ian_InvalidTree : Option Addr} {isl_InvalidTree : Array (Option Value)} {ioc_InvalidTree ikV_InvalidTree idc_InvalidTree ipm_InvalidTree icd_InvalidTree ict_InvalidTree : Value}
    (ic_InvalidTree : PySem.W.findIn K (.ref C_InvalidTree) "__init__" = some (some (.ref I_InvalidTree))) (oa_InvalidTree : PySem.W.findIn K (.ref C_InvalidTree) "__setattr__" = some (some (.builtin "object.__setattr__"))) (oe_InvalidTree : PySem.W.findIn K (.ref C_InvalidTree) "value" = some none) (of_InvalidTree : PySem.W.typeIn K (.ref I_InvalidTree) = some (.type "function"))
    (il_InvalidTree : K.lookup I_InvalidTree = some ⟨ioc_InvalidTree, iod_InvalidTree, .func (PySem.W.fnOf "__init__" "InvalidTree.__init__" (defArgs s_init_InvalidTree) (defBody s_init_InvalidTree) (defScope s_init_InvalidTree) .none ikV_InvalidTree idc_InvalidTree ipm_InvalidTree ian_InvalidTree icd_InvalidTree ict_InvalidTree), isl_InvalidTree⟩) (ie_InvalidTree : PySem.W.codeIn K icd_InvalidTree "InvalidTree.__init__" = true) (ik_InvalidTree : PySem.W.keepIn K (.ref I_InvalidTree) = true)
    {C_InvalidCount : Addr} (ac_InvalidCount : PySem.W.nsIn K mainGlobals "InvalidCount" = some (some (.ref C_InvalidCount))) (kc_InvalidCount : PySem.W.keepIn K (.ref C_InvalidCount) = true) {kd_InvalidCount : ClassData} (kl_InvalidCount : PySem.W.clsIn K C_InvalidCount = some kd_InvalidCount) (kt_InvalidCount : PySem.W.typeIn K (.ref C_InvalidCount) = some (.type "type"))
    (xp_InvalidCount : PySem.W.findIn K (.ref C_InvalidCount) "__getattribute__" = some (some (.builtin "BaseException.__getattribute__"))) (xq_InvalidCount : PySem.W.findIn K (.ref C_InvalidCount) "__getattr__" = some none) (xr_InvalidCount : PySem.W.subIn K (.ref C_InvalidCount) (.type "BaseException") = some true) (xs_InvalidCount : PySem.W.hasDictIn K C_InvalidCount = true) (xt_InvalidCount : PySem.W.findIn K (.ref C_InvalidCount) "__class__" = some (some (.builtin "object.__class__"))) (xu_InvalidCount : PySem.W.mroIn K C_InvalidCount (.type "object") = some true)
    {nm_InvalidCount q_InvalidCount : Str} {N_InvalidCount : Addr} {bs_InvalidCount bm_InvalidCount : List Value} {sn_InvalidCount : _} {sub_InvalidCount : _} {ab_InvalidCount : _} {col_InvalidCount : _} {dd_InvalidCount : _} {k0_InvalidCount : _} {k1_InvalidCount : _} {k2_InvalidCount : _} {k3_InvalidCount : _} {k5_InvalidCount : _}
    (xL_InvalidCount : K.lookup C_InvalidCount = some (excClassObj nm_InvalidCount q_InvalidCount C_InvalidCount N_InvalidCount bs_InvalidCount bm_InvalidCount true sn_InvalidCount sub_InvalidCount ab_InvalidCount col_InvalidCount dd_InvalidCount k0_InvalidCount k1_InvalidCount k2_InvalidCount k3_InvalidCount k5_InvalidCount "ValueError.__new__")) (rv_InvalidCount : PySem.HandSPX.refsVE bm_InvalidCount = true)
    {I_InvalidCount : Addr} {iod_InvalidCount ian_InvalidCount : Option Addr} {isl_InvalidCount : Array (Option Value)} {ioc_InvalidCount ikV_InvalidCount idc_InvalidCount ipm_InvalidCount icd_InvalidCount ict_InvalidCount : Value}
    (ic_InvalidCount : PySem.W.findIn K (.ref C_InvalidCount) "__init__" = some (some (.ref I_InvalidCount))) (oa_InvalidCount : PySem.W.findIn K (.ref C_InvalidCount) "__setattr__" = some (some (.builtin "object.__setattr__"))) (oe_InvalidCount : PySem.W.findIn K (.ref C_InvalidCount) "value" = some none) (of_InvalidCount : PySem.W.typeIn K (.ref I_InvalidCount) = some (.type "function"))
    (il_InvalidCount : K.lookup I_InvalidCount = some ⟨ioc_InvalidCount, iod_InvalidCount, .func (PySem.W.fnOf "__init__" "InvalidCount.__init__" (defArgs s_init_InvalidCount) (defBody s_init_InvalidCount) (defScope s_init_InvalidCount) .none ikV_InvalidCount idc_InvalidCount ipm_InvalidCount ian_InvalidCount icd_InvalidCount ict_InvalidCount), isl_InvalidCount⟩) (ie_InvalidCount : PySem.W.codeIn K icd_InvalidCount "InvalidCount.__init__" = true) (ik_InvalidCount : PySem.W.keepIn K (.ref I_InvalidCount) = true)
    {C_InvalidIndex : Addr} (ac_InvalidIndex : PySem.W.nsIn K mainGlobals "InvalidIndex" = some (some (.ref C_InvalidIndex))) (kc_InvalidIndex : PySem.W.keepIn K (.ref C_InvalidIndex) = true) {kd_InvalidIndex : ClassData} (kl_InvalidIndex : PySem.W.clsIn K C_InvalidIndex = some kd_InvalidIndex) (kt_InvalidIndex : PySem.W.typeIn K (.ref C_InvalidIndex) = some (.type "type"))
    (xp_InvalidIndex : PySem.W.findIn K (.ref C_InvalidIndex) "__getattribute__" = some (some (.builtin "BaseException.__getattribute__"))) (xq_InvalidIndex : PySem.W.findIn K (.ref C_InvalidIndex) "__getattr__" = some none) (xr_InvalidIndex : PySem.W.subIn K (.ref C_InvalidIndex) (.type "BaseException") = some true) (xs_InvalidIndex : PySem.W.hasDictIn K C_InvalidIndex = true) (xt_InvalidIndex : PySem.W.findIn K (.ref C_InvalidIndex) "__class__" = some (some (.builtin "object.__class__"))) (xu_InvalidIndex : PySem.W.mroIn K C_InvalidIndex (.type "object") = some true)
    {nm_InvalidIndex q_InvalidIndex : Str} {N_InvalidIndex : Addr} {bs_InvalidIndex bm_InvalidIndex : List Value} {sn_InvalidIndex : _} {sub_InvalidIndex : _} {ab_InvalidIndex : _} {col_InvalidIndex : _} {dd_InvalidIndex : _} {k0_InvalidIndex : _} {k1_InvalidIndex : _} {k2_InvalidIndex : _} {k3_InvalidIndex : _} {k5_InvalidIndex : _}
    (xL_InvalidIndex : K.lookup C_InvalidIndex = some (excClassObj nm_InvalidIndex q_InvalidIndex C_InvalidIndex N_InvalidIndex bs_InvalidIndex bm_InvalidIndex true sn_InvalidIndex sub_InvalidIndex ab_InvalidIndex col_InvalidIndex dd_InvalidIndex k0_InvalidIndex k1_InvalidIndex k2_InvalidIndex k3_InvalidIndex k5_InvalidIndex "ValueError.__new__")) (rv_InvalidIndex : PySem.HandSPX.refsVE bm_InvalidIndex = true)
    {I_InvalidIndex : Addr} {iod_InvalidIndex ian_InvalidIndex : Option Addr} {isl_InvalidIndex : Array (Option Value)} {ioc_InvalidIndex ikV_InvalidIndex idc_InvalidIndex ipm_InvalidIndex icd_InvalidIndex ict_InvalidIndex : Value}
    (ic_InvalidIndex : PySem.W.findIn K (.ref C_InvalidIndex) "__init__" = some (some (.ref I_InvalidIndex))) (oa_InvalidIndex : PySem.W.findIn K (.ref C_InvalidIndex) "__setattr__" = some (some (.builtin "object.__setattr__"))) (oe_InvalidIndex : PySem.W.findIn K (.ref C_InvalidIndex) "value" = some none) (of_InvalidIndex : PySem.W.typeIn K (.ref I_InvalidIndex) = some (.type "function"))
    (il_InvalidIndex : K.lookup I_InvalidIndex = some ⟨ioc_InvalidIndex, iod_InvalidIndex, .func (PySem.W.fnOf "__init__" "InvalidIndex.__init__" (defArgs s_init_InvalidIndex) (defBody s_init_InvalidIndex) (defScope s_init_InvalidIndex) .none ikV_InvalidIndex idc_InvalidIndex ipm_InvalidIndex ian_InvalidIndex icd_InvalidIndex ict_InvalidIndex), isl_InvalidIndex⟩) (ie_InvalidIndex : PySem.W.codeIn K icd_InvalidIndex "InvalidIndex.__init__" = true) (ik_InvalidIndex : PySem.W.keepIn K (.ref I_InvalidIndex) = true)
    {C_InvalidBudget : Addr} (ac_InvalidBudget : PySem.W.nsIn K mainGlobals "InvalidBudget" = some (some (.ref C_InvalidBudget))) (kc_InvalidBudget : PySem.W.keepIn K (.ref C_InvalidBudget) = true) {kd_InvalidBudget : ClassData} (kl_InvalidBudget : PySem.W.clsIn K C_InvalidBudget = some kd_InvalidBudget) (kt_InvalidBudget : PySem.W.typeIn K (.ref C_InvalidBudget) = some (.type "type"))
    (xp_InvalidBudget : PySem.W.findIn K (.ref C_InvalidBudget) "__getattribute__" = some (some (.builtin "BaseException.__getattribute__"))) (xq_InvalidBudget : PySem.W.findIn K (.ref C_InvalidBudget) "__getattr__" = some none) (xr_InvalidBudget : PySem.W.subIn K (.ref C_InvalidBudget) (.type "BaseException") = some true) (xs_InvalidBudget : PySem.W.hasDictIn K C_InvalidBudget = true) (xt_InvalidBudget : PySem.W.findIn K (.ref C_InvalidBudget) "__class__" = some (some (.builtin "object.__class__"))) (xu_InvalidBudget : PySem.W.mroIn K C_InvalidBudget (.type "object") = some true)
    {nm_InvalidBudget q_InvalidBudget : Str} {N_InvalidBudget : Addr} {bs_InvalidBudget bm_InvalidBudget : List Value} {sn_InvalidBudget : _} {sub_InvalidBudget : _} {ab_InvalidBudget : _} {col_InvalidBudget : _} {dd_InvalidBudget : _} {k0_InvalidBudget : _} {k1_InvalidBudget : _} {k2_InvalidBudget : _} {k3_InvalidBudget : _} {k5_InvalidBudget : _}
    (xL_InvalidBudget : K.lookup C_InvalidBudget = some (excClassObj nm_InvalidBudget q_InvalidBudget C_InvalidBudget N_InvalidBudget bs_InvalidBudget bm_InvalidBudget true sn_InvalidBudget sub_InvalidBudget ab_InvalidBudget col_InvalidBudget dd_InvalidBudget k0_InvalidBudget k1_InvalidBudget k2_InvalidBudget k3_InvalidBudget k5_InvalidBudget "ValueError.__new__")) (rv_InvalidBudget : PySem.HandSPX.refsVE bm_InvalidBudget = true)
    {I_InvalidBudget : Addr} {iod_InvalidBudget ian_InvalidBudget : Option Addr} {isl_InvalidBudget : Array (Option Value)} {ioc_InvalidBudget ikV_InvalidBudget idc_InvalidBudget ipm_InvalidBudget icd_InvalidBudget ict_InvalidBudget : Value}
    (ic_InvalidBudget : PySem.W.findIn K (.ref C_InvalidBudget) "__init__" = some (some (.ref I_InvalidBudget))) (oa_InvalidBudget : PySem.W.findIn K (.ref C_InvalidBudget) "__setattr__" = some (some (.builtin "object.__setattr__"))) (oe_InvalidBudget : PySem.W.findIn K (.ref C_InvalidBudget) "value" = some none) (of_InvalidBudget : PySem.W.typeIn K (.ref I_InvalidBudget) = some (.type "function"))
    (il_InvalidBudget : K.lookup I_InvalidBudget = some ⟨ioc_InvalidBudget, iod_InvalidBudget, .func (PySem.W.fnOf "__init__" "InvalidBudget.__init__" (defArgs s_init_InvalidBudget) (defBody s_init_InvalidBudget) (defScope s_init_InvalidBudget) .none ikV_InvalidBudget idc_InvalidBudget ipm_InvalidBudget ian_InvalidBudget icd_InvalidBudget ict_InvalidBudget), isl_InvalidBudget⟩) (ie_InvalidBudget : PySem.W.codeIn K icd_InvalidBudget "InvalidBudget.__init__" = true) (ik_InvalidBudget : PySem.W.keepIn K (.ref I_InvalidBudget) = true)
    {C_OutsideBudget : Addr} (ac_OutsideBudget : PySem.W.nsIn K mainGlobals "OutsideBudget" = some (some (.ref C_OutsideBudget))) (kc_OutsideBudget : PySem.W.keepIn K (.ref C_OutsideBudget) = true) {kd_OutsideBudget : ClassData} (kl_OutsideBudget : PySem.W.clsIn K C_OutsideBudget = some kd_OutsideBudget) (kt_OutsideBudget : PySem.W.typeIn K (.ref C_OutsideBudget) = some (.type "type"))
    (xp_OutsideBudget : PySem.W.findIn K (.ref C_OutsideBudget) "__getattribute__" = some (some (.builtin "BaseException.__getattribute__"))) (xq_OutsideBudget : PySem.W.findIn K (.ref C_OutsideBudget) "__getattr__" = some none) (xr_OutsideBudget : PySem.W.subIn K (.ref C_OutsideBudget) (.type "BaseException") = some true) (xs_OutsideBudget : PySem.W.hasDictIn K C_OutsideBudget = true) (xt_OutsideBudget : PySem.W.findIn K (.ref C_OutsideBudget) "__class__" = some (some (.builtin "object.__class__"))) (xu_OutsideBudget : PySem.W.mroIn K C_OutsideBudget (.type "object") = some true)
    {nm_OutsideBudget q_OutsideBudget : Str} {N_OutsideBudget : Addr} {bs_OutsideBudget bm_OutsideBudget : List Value} {sn_OutsideBudget : _} {sub_OutsideBudget : _} {ab_OutsideBudget : _} {col_OutsideBudget : _} {dd_OutsideBudget : _} {k0_OutsideBudget : _} {k1_OutsideBudget : _} {k2_OutsideBudget : _} {k3_OutsideBudget : _} {k5_OutsideBudget : _}
    (xL_OutsideBudget : K.lookup C_OutsideBudget = some (excClassObj nm_OutsideBudget q_OutsideBudget C_OutsideBudget N_OutsideBudget bs_OutsideBudget bm_OutsideBudget true sn_OutsideBudget sub_OutsideBudget ab_OutsideBudget col_OutsideBudget dd_OutsideBudget k0_OutsideBudget k1_OutsideBudget k2_OutsideBudget k3_OutsideBudget k5_OutsideBudget "ValueError.__new__")) (rv_OutsideBudget : PySem.HandSPX.refsVE bm_OutsideBudget = true)
    {I_OutsideBudget : Addr} {iod_OutsideBudget ian_OutsideBudget : Option Addr} {isl_OutsideBudget : Array (Option Value)} {ioc_OutsideBudget ikV_OutsideBudget idc_OutsideBudget ipm_OutsideBudget icd_OutsideBudget ict_OutsideBudget : Value}
    (ic_OutsideBudget : PySem.W.findIn K (.ref C_OutsideBudget) "__init__" = some (some (.ref I_OutsideBudget))) (oa_OutsideBudget : PySem.W.findIn K (.ref C_OutsideBudget) "__setattr__" = some (some (.builtin "object.__setattr__"))) (oe_OutsideBudget : PySem.W.findIn K (.ref C_OutsideBudget) "value" = some none) (of_OutsideBudget : PySem.W.typeIn K (.ref I_OutsideBudget) = some (.type "function"))
    (il_OutsideBudget : K.lookup I_OutsideBudget = some ⟨ioc_OutsideBudget, iod_OutsideBudget, .func (PySem.W.fnOf "__init__" "OutsideBudget.__init__" (defArgs s_init_OutsideBudget) (defBody s_init_OutsideBudget) (defScope s_init_OutsideBudget) .none ikV_OutsideBudget idc_OutsideBudget ipm_OutsideBudget ian_OutsideBudget icd_OutsideBudget ict_OutsideBudget), isl_OutsideBudget⟩) (ie_OutsideBudget : PySem.W.codeIn K icd_OutsideBudget "OutsideBudget.__init__" = true) (ik_OutsideBudget : PySem.W.keepIn K (.ref I_OutsideBudget) = true)
    (gsp : PySem.W.specialIn K (.builtin "object.__class__") "__get__" = some (some (.builtin "getset_descriptor.__get__"))) (gta : PySem.W.takesIn K (.builtin "object.__class__") = some true) (kits : kitT [(C_InvalidSchedule, kd_InvalidSchedule.mro), (C_InvalidTree, kd_InvalidTree.mro), (C_InvalidCount, kd_InvalidCount.mro), (C_InvalidIndex, kd_InvalidIndex.mro), (C_InvalidBudget, kd_InvalidBudget.mro), (C_OutsideBudget, kd_OutsideBudget.mro)] C_MergeBudgetError = true) (kitn : decide ([C_InvalidSchedule, C_InvalidTree, C_InvalidCount, C_InvalidIndex, C_InvalidBudget, C_OutsideBudget].Nodup) = true) (kitz : decide (C_MergeBudgetError ∈ [C_InvalidSchedule, C_InvalidTree, C_InvalidCount, C_InvalidIndex, C_InvalidBudget, C_OutsideBudget]) = false)
    : ∃ (fd : FuncData) (cs : List (Addr × Addr)), (∀ p ∈ cs, h.get? p.2 = some { cls := .none, data := .fields #[] }) ∧ (∀ p ∈ cs, K.lookup p.2 = none) ∧ (∀ p ∈ cs, PySem.W.CodeHd h p.1 p.2) ∧ (∀ p ∈ cs, p.1 ≠ sysModules ∧ p.2 ≠ sysModules) ∧ (∀ (s : Shared) (v : Value), BindsTo s fd ⟨[v], []⟩ [("_law_script", v)]) ∧ (∀ base : Heap, K.In base → base.Ns mainGlobals mg → (∀ p ∈ cs, LamX.TabB base mg p.1 p.2) → FnG l.prog w K mg base CX0 68 fa fd ["_law_script"] (sp_law K cs)) ∧ ∀ (H : Hp) (a : Addr) (ns : List Int) (o : HO), ns.length ≤ 63 → SqL K H a (ns.map V.int) → H sysModules = some o → (∀ ps, o ≠ .tbl ps) → (∀ p ∈ cs, H p.2 = some (.tbl #[])) → sp_law K cs [.ref a] H (fun v _ => v = .bl true) fun _ _ _ => False := by
  have e := hfa.symm.trans (PySem.W.mg_of X G a_law)
  cases e
  have F_is_int := fun_mk (st := s_is_int) l_is_int c_is_int k_is_int
  have B_is_int := F_is_int.binds (ps := ["value"]) fun _ _ _ _ _ _ us hl => match us, hl with | [_], _ => rfl
  have F_is_count := fun_mk (st := s_is_count) l_is_count c_is_count k_is_count
  have B_is_count := F_is_count.binds (ps := ["value"]) fun _ _ _ _ _ _ us hl => match us, hl with | [_], _ => rfl
  have F_is_count_up_to := fun_mk (st := s_is_count_up_to) l_is_count_up_to c_is_count_up_to k_is_count_up_to
  have B_is_count_up_to := F_is_count_up_to.binds (ps := ["value", "most"]) fun _ _ _ _ _ _ us hl => match us, hl with | [_, _], _ => rfl
  have F_check_budgets := fun_mk (st := s_check_budgets) l_check_budgets c_check_budgets k_check_budgets
  have B_check_budgets := F_check_budgets.binds (ps := ["k", "c", "most"]) fun _ _ _ _ _ _ us hl => match us, hl with | [_, _, _], _ => rfl
  have F_is_schedule := fun_mk (st := s_is_schedule) l_is_schedule c_is_schedule k_is_schedule
  have B_is_schedule := F_is_schedule.binds (ps := ["value"]) fun _ _ _ _ _ _ us hl => match us, hl with | [_], _ => rfl
  have F_stacks := fun_mk (st := s_stacks) l_stacks c_stacks k_stacks
  have B_stacks := F_stacks.binds (ps := ["schedule"]) fun _ _ _ _ _ _ us hl => match us, hl with | [_], _ => rfl
  have F_stack_after := fun_mk (st := s_stack_after) l_stack_after c_stack_after k_stack_after
  have B_stack_after := F_stack_after.binds (ps := ["stack", "flush", "merge"]) fun _ _ _ _ _ _ us hl => match us, hl with | [_, _, _], _ => rfl
  have F_writes := fun_mk (st := s_writes) l_writes c_writes k_writes
  have B_writes := F_writes.binds (ps := ["schedule"]) fun _ _ _ _ _ _ us hl => match us, hl with | [_], _ => rfl
  have F_run_counts := fun_mk (st := s_run_counts) l_run_counts c_run_counts k_run_counts
  have B_run_counts := F_run_counts.binds (ps := ["schedule"]) fun _ _ _ _ _ _ us hl => match us, hl with | [_], _ => rfl
  have F_runs_at_end := fun_mk (st := s_runs_at_end) l_runs_at_end c_runs_at_end k_runs_at_end
  have B_runs_at_end := F_runs_at_end.binds (ps := ["schedule"]) fun _ _ _ _ _ _ us hl => match us, hl with | [_], _ => rfl
  have F_check_flushes := fun_mk (st := s_check_flushes) l_check_flushes c_check_flushes k_check_flushes
  have B_check_flushes := F_check_flushes.binds (ps := ["n"]) fun _ _ _ _ _ _ us hl => match us, hl with | [_], _ => rfl
  have F_counts_within := fun_mk (st := s_counts_within) l_counts_within c_counts_within k_counts_within
  have B_counts_within := F_counts_within.binds (ps := ["n", "k", "c"]) fun _ _ _ _ _ _ us hl => match us, hl with | [_, _, _], _ => rfl
  have F_counts_by_size := fun_mk (st := s_counts_by_size) l_counts_by_size c_counts_by_size k_counts_by_size
  have B_counts_by_size := F_counts_by_size.binds (ps := ["lefts", "rights"]) fun _ _ _ _ _ _ us hl => match us, hl with | [_, _], _ => rfl
  have F_index_within := fun_mk (st := s_index_within) l_index_within c_index_within k_index_within
  have B_index_within := F_index_within.binds (ps := ["schedule", "k", "c"]) fun _ _ _ _ _ _ us hl => match us, hl with | [_, _, _], _ => rfl
  have F_place_of := fun_mk (st := s_place_of) l_place_of c_place_of k_place_of
  have B_place_of := F_place_of.binds (ps := ["schedule", "b", "a", "counts"]) fun _ _ _ _ _ _ us hl => match us, hl with | [_, _, _, _], _ => rfl
  have F_root_of := fun_mk (st := s_root_of) l_root_of c_root_of k_root_of
  have B_root_of := F_root_of.binds (ps := ["schedule"]) fun _ _ _ _ _ _ us hl => match us, hl with | [_], _ => rfl
  have F_schedule_within := fun_mk (st := s_schedule_within) l_schedule_within c_schedule_within k_schedule_within
  have B_schedule_within := F_schedule_within.binds (ps := ["n", "k", "c", "index"]) fun _ _ _ _ _ _ us hl => match us, hl with | [_, _, _, _], _ => rfl
  have F_schedule_in_place := fun_mk (st := s_schedule_in_place) l_schedule_in_place c_schedule_in_place k_schedule_in_place
  have B_schedule_in_place := F_schedule_in_place.binds (ps := ["n", "b", "a", "place", "counts"]) fun _ _ _ _ _ _ us hl => match us, hl with | [_, _, _, _, _], _ => rfl
  have KC_schedule_in_place_b_a_place_counts := kbQ (p0 := "n") (ks := ["b", "a", "place", "counts"]) F_schedule_in_place fun _ _ _ _ _ _ _ ws hl => match ws, hl with | [_, _, _, _], _ => rfl
  have F_L_pot := fun_mk (st := s_L_pot) l_L_pot c_L_pot k_L_pot
  have B_L_pot := F_L_pot.binds (ps := ["_law_script", "_law_place"]) fun _ _ _ _ _ _ us hl => match us, hl with | [_, _], _ => rfl
  have F_L_take := fun_mk (st := s_L_take) l_L_take c_L_take k_L_take
  have B_L_take := F_L_take.binds (ps := ["_law_pot", "_law_size"]) fun _ _ _ _ _ _ us hl => match us, hl with | [_, _], _ => rfl
  have F_L_piles := fun_mk (st := s_L_piles) l_L_piles c_L_piles k_L_piles
  have B_L_piles := F_L_piles.binds (ps := ["_law_plan"]) fun _ _ _ _ _ _ us hl => match us, hl with | [_], _ => rfl
  have F_L_written := fun_mk (st := s_L_written) l_L_written c_L_written k_L_written
  have B_L_written := F_L_written.binds (ps := ["_law_plan"]) fun _ _ _ _ _ _ us hl => match us, hl with | [_], _ => rfl
  have F_L_all := fun_mk (st := s_L_all) l_L_all c_L_all k_L_all
  have B_L_all := F_L_all.binds (ps := ["_law_size"]) fun _ _ _ _ _ _ us hl => match us, hl with | [_], _ => rfl
  have F_L_root := fun_mk (st := s_L_root) l_L_root c_L_root k_L_root
  have B_L_root := F_L_root.binds (ps := ["_law_plan"]) fun _ _ _ _ _ _ us hl => match us, hl with | [_], _ => rfl
  have F_L_refusal := fun_mk (st := s_L_refusal) l_L_refusal c_L_refusal k_L_refusal
  have B_L_refusal := F_L_refusal.binds (ps := ["_law_ask"]) fun _ _ _ _ _ _ us hl => match us, hl with | [_], _ => rfl
  have F_L_within := fun_mk (st := s_L_within) l_L_within c_L_within k_L_within
  have B_L_within := F_L_within.binds (ps := ["_law_plan", "_law_most_runs", "_law_most_writes"]) fun _ _ _ _ _ _ us hl => match us, hl with | [_, _, _], _ => rfl
  have F_L_key := fun_mk (st := s_L_key) l_L_key c_L_key k_L_key
  have B_L_key := F_L_key.binds (ps := ["_law_plan"]) fun _ _ _ _ _ _ us hl => match us, hl with | [_], _ => rfl
  have F_L_right := fun_mk (st := s_L_right) l_L_right c_L_right k_L_right
  have B_L_right := F_L_right.binds (ps := ["_law_size", "_law_most_runs", "_law_most_writes"]) fun _ _ _ _ _ _ us hl => match us, hl with | [_, _, _], _ => rfl
  have F_law := fun_mk (st := s_law) l_law c_law k_law
  have B_law := F_law.binds (ps := ["_law_script"]) fun _ _ _ _ _ _ us hl => match us, hl with | [_], _ => rfl
  have FI_InvalidSchedule := fun_mk (st := s_init_InvalidSchedule) il_InvalidSchedule ie_InvalidSchedule ik_InvalidSchedule
  have BI_InvalidSchedule := FI_InvalidSchedule.binds (ps := ["self", "value"]) fun _ _ _ _ _ _ us hl => match us, hl with | [_, _], _ => rfl
  have FI_InvalidTree := fun_mk (st := s_init_InvalidTree) il_InvalidTree ie_InvalidTree ik_InvalidTree
  have BI_InvalidTree := FI_InvalidTree.binds (ps := ["self", "value"]) fun _ _ _ _ _ _ us hl => match us, hl with | [_, _], _ => rfl
  have FI_InvalidCount := fun_mk (st := s_init_InvalidCount) il_InvalidCount ie_InvalidCount ik_InvalidCount
  have BI_InvalidCount := FI_InvalidCount.binds (ps := ["self", "value"]) fun _ _ _ _ _ _ us hl => match us, hl with | [_, _], _ => rfl
  have FI_InvalidIndex := fun_mk (st := s_init_InvalidIndex) il_InvalidIndex ie_InvalidIndex ik_InvalidIndex
  have BI_InvalidIndex := FI_InvalidIndex.binds (ps := ["self", "value"]) fun _ _ _ _ _ _ us hl => match us, hl with | [_, _], _ => rfl
  have FI_InvalidBudget := fun_mk (st := s_init_InvalidBudget) il_InvalidBudget ie_InvalidBudget ik_InvalidBudget
  have BI_InvalidBudget := FI_InvalidBudget.binds (ps := ["self", "value"]) fun _ _ _ _ _ _ us hl => match us, hl with | [_, _], _ => rfl
  have FI_OutsideBudget := fun_mk (st := s_init_OutsideBudget) il_OutsideBudget ie_OutsideBudget ik_OutsideBudget
  have BI_OutsideBudget := FI_OutsideBudget.binds (ps := ["self", "value"]) fun _ _ _ _ _ _ us hl => match us, hl with | [_, _], _ => rfl
  have KT := kitB_mk (K := K) (m := C_MergeBudgetError) [(C_InvalidSchedule, kd_InvalidSchedule), (C_InvalidTree, kd_InvalidTree), (C_InvalidCount, kd_InvalidCount), (C_InvalidIndex, kd_InvalidIndex), (C_InvalidBudget, kd_InvalidBudget), (C_OutsideBudget, kd_OutsideBudget)] (by simp only [List.forall_mem_cons, List.not_mem_nil, false_implies, implies_true, and_true]; exact ⟨⟨kl_InvalidSchedule, kt_InvalidSchedule⟩, ⟨kl_InvalidTree, kt_InvalidTree⟩, ⟨kl_InvalidCount, kt_InvalidCount⟩, ⟨kl_InvalidIndex, kt_InvalidIndex⟩, ⟨kl_InvalidBudget, kt_InvalidBudget⟩, ⟨kl_OutsideBudget, kt_OutsideBudget⟩⟩) kl_MergeBudgetError kt_MergeBudgetError kits
  let TX : Tx K mg := ⟨_, _, F_is_int, PySem.W.mg_of X G a_is_int, B_is_int, _, _, F_is_count, PySem.W.mg_of X G a_is_count, B_is_count, _, _, F_is_count_up_to, PySem.W.mg_of X G a_is_count_up_to, B_is_count_up_to, _, _, F_check_budgets, PySem.W.mg_of X G a_check_budgets, B_check_budgets, _, _, F_is_schedule, PySem.W.mg_of X G a_is_schedule, B_is_schedule, _, _, F_stacks, PySem.W.mg_of X G a_stacks, B_stacks, _, _, F_stack_after, PySem.W.mg_of X G a_stack_after, B_stack_after, _, _, F_writes, PySem.W.mg_of X G a_writes, B_writes, _, _, F_run_counts, PySem.W.mg_of X G a_run_counts, B_run_counts, _, _, F_runs_at_end, PySem.W.mg_of X G a_runs_at_end, B_runs_at_end, _, _, F_check_flushes, PySem.W.mg_of X G a_check_flushes, B_check_flushes, _, _, F_counts_within, PySem.W.mg_of X G a_counts_within, B_counts_within, _, _, F_counts_by_size, PySem.W.mg_of X G a_counts_by_size, B_counts_by_size, _, _, F_index_within, PySem.W.mg_of X G a_index_within, B_index_within, _, _, F_place_of, PySem.W.mg_of X G a_place_of, B_place_of, _, _, F_root_of, PySem.W.mg_of X G a_root_of, B_root_of, _, _, F_schedule_within, PySem.W.mg_of X G a_schedule_within, B_schedule_within, _, _, F_schedule_in_place, PySem.W.mg_of X G a_schedule_in_place, B_schedule_in_place, KC_schedule_in_place_b_a_place_counts, _, _, F_L_pot, PySem.W.mg_of X G a_L_pot, B_L_pot, _, _, F_L_take, PySem.W.mg_of X G a_L_take, B_L_take, _, _, F_L_piles, PySem.W.mg_of X G a_L_piles, B_L_piles, _, _, F_L_written, PySem.W.mg_of X G a_L_written, B_L_written, _, _, F_L_all, PySem.W.mg_of X G a_L_all, B_L_all, _, _, F_L_root, PySem.W.mg_of X G a_L_root, B_L_root, _, _, F_L_refusal, PySem.W.mg_of X G a_L_refusal, B_L_refusal, _, _, F_L_within, PySem.W.mg_of X G a_L_within, B_L_within, _, _, F_L_key, PySem.W.mg_of X G a_L_key, B_L_key, _, _, F_L_right, PySem.W.mg_of X G a_L_right, B_L_right, _, _, F_law, PySem.W.mg_of X G a_law, B_law, PySem.W.mg_none_of X G z_isinstance, PySem.W.mg_none_of X G z_int, PySem.W.mg_none_of X G z_bool, PySem.W.mg_none_of X G z_tuple, PySem.W.mg_none_of X G z_len, PySem.W.mg_none_of X G z_enumerate, PySem.W.mg_none_of X G z_range, PySem.W.mg_none_of X G z_sum, PySem.W.mg_none_of X G z_max, PySem.W.mg_none_of X G z_zip, PySem.W.mg_none_of X G z_divmod, PySem.W.mg_none_of X G z_abs, PySem.W.mg_none_of X G z_list, PySem.W.mg_none_of X G z_repr, PySem.W.mg_none_of X G z_ValueError, PySem.W.mg_none_of X G z_any, PySem.W.mg_none_of X G z_all, PySem.W.mg_none_of X G z_sorted, PySem.W.mg_none_of X G z_min, _, PySem.W.mg_of X G ac_MergeBudgetError, kc_MergeBudgetError, ⟨xp_MergeBudgetError, xq_MergeBudgetError, xr_MergeBudgetError, xs_MergeBudgetError, xt_MergeBudgetError, gsp, gta, xu_MergeBudgetError⟩, ⟨xp_MergeBudgetError, xq_MergeBudgetError, xr_MergeBudgetError, xs_MergeBudgetError⟩, xi_MergeBudgetError, _, PySem.W.mg_of X G ac_InvalidSchedule, kc_InvalidSchedule, ⟨xp_InvalidSchedule, xq_InvalidSchedule, xr_InvalidSchedule, xs_InvalidSchedule, xt_InvalidSchedule, gsp, gta, xu_InvalidSchedule⟩, ⟨xp_InvalidSchedule, xq_InvalidSchedule, xr_InvalidSchedule, xs_InvalidSchedule⟩, ⟨⟨_, _, _, _, _, _, _, _, _, _, _, _, _, _, _, xL_InvalidSchedule, rv_InvalidSchedule⟩, oa_InvalidSchedule, xr_InvalidSchedule, kt_InvalidSchedule, kc_InvalidSchedule⟩, oe_InvalidSchedule, _, _, ic_InvalidSchedule, of_InvalidSchedule, FI_InvalidSchedule, BI_InvalidSchedule, _, PySem.W.mg_of X G ac_InvalidTree, kc_InvalidTree, ⟨xp_InvalidTree, xq_InvalidTree, xr_InvalidTree, xs_InvalidTree, xt_InvalidTree, gsp, gta, xu_InvalidTree⟩, ⟨xp_InvalidTree, xq_InvalidTree, xr_InvalidTree, xs_InvalidTree⟩, ⟨⟨_, _, _, _, _, _, _, _, _, _, _, _, _, _, _, xL_InvalidTree, rv_InvalidTree⟩, oa_InvalidTree, xr_InvalidTree, kt_InvalidTree, kc_InvalidTree⟩, oe_InvalidTree, _, _, ic_InvalidTree, of_InvalidTree, FI_InvalidTree, BI_InvalidTree, _, PySem.W.mg_of X G ac_InvalidCount, kc_InvalidCount, ⟨xp_InvalidCount, xq_InvalidCount, xr_InvalidCount, xs_InvalidCount, xt_InvalidCount, gsp, gta, xu_InvalidCount⟩, ⟨xp_InvalidCount, xq_InvalidCount, xr_InvalidCount, xs_InvalidCount⟩, ⟨⟨_, _, _, _, _, _, _, _, _, _, _, _, _, _, _, xL_InvalidCount, rv_InvalidCount⟩, oa_InvalidCount, xr_InvalidCount, kt_InvalidCount, kc_InvalidCount⟩, oe_InvalidCount, _, _, ic_InvalidCount, of_InvalidCount, FI_InvalidCount, BI_InvalidCount, _, PySem.W.mg_of X G ac_InvalidIndex, kc_InvalidIndex, ⟨xp_InvalidIndex, xq_InvalidIndex, xr_InvalidIndex, xs_InvalidIndex, xt_InvalidIndex, gsp, gta, xu_InvalidIndex⟩, ⟨xp_InvalidIndex, xq_InvalidIndex, xr_InvalidIndex, xs_InvalidIndex⟩, ⟨⟨_, _, _, _, _, _, _, _, _, _, _, _, _, _, _, xL_InvalidIndex, rv_InvalidIndex⟩, oa_InvalidIndex, xr_InvalidIndex, kt_InvalidIndex, kc_InvalidIndex⟩, oe_InvalidIndex, _, _, ic_InvalidIndex, of_InvalidIndex, FI_InvalidIndex, BI_InvalidIndex, _, PySem.W.mg_of X G ac_InvalidBudget, kc_InvalidBudget, ⟨xp_InvalidBudget, xq_InvalidBudget, xr_InvalidBudget, xs_InvalidBudget, xt_InvalidBudget, gsp, gta, xu_InvalidBudget⟩, ⟨xp_InvalidBudget, xq_InvalidBudget, xr_InvalidBudget, xs_InvalidBudget⟩, ⟨⟨_, _, _, _, _, _, _, _, _, _, _, _, _, _, _, xL_InvalidBudget, rv_InvalidBudget⟩, oa_InvalidBudget, xr_InvalidBudget, kt_InvalidBudget, kc_InvalidBudget⟩, oe_InvalidBudget, _, _, ic_InvalidBudget, of_InvalidBudget, FI_InvalidBudget, BI_InvalidBudget, _, PySem.W.mg_of X G ac_OutsideBudget, kc_OutsideBudget, ⟨xp_OutsideBudget, xq_OutsideBudget, xr_OutsideBudget, xs_OutsideBudget, xt_OutsideBudget, gsp, gta, xu_OutsideBudget⟩, ⟨xp_OutsideBudget, xq_OutsideBudget, xr_OutsideBudget, xs_OutsideBudget⟩, ⟨⟨_, _, _, _, _, _, _, _, _, _, _, _, _, _, _, xL_OutsideBudget, rv_OutsideBudget⟩, oa_OutsideBudget, xr_OutsideBudget, kt_OutsideBudget, kc_OutsideBudget⟩, oe_OutsideBudget, _, _, ic_OutsideBudget, of_OutsideBudget, FI_OutsideBudget, BI_OutsideBudget, KT, of_decide_eq_true kitn, of_decide_eq_false kitz, cdA_L_right, ptA_L_right, ⟨_, _, _, _, _, _, _, _, rfl, l_L_right, c_L_right⟩, _, PySem.W.mg_of X G y_MOST_BUDGET, _, PySem.W.mg_of X G y_MOST_FLUSHES⟩
  exact ⟨TX.fd_law, [(cdA_L_right, ptA_L_right)], (fun p hp => by rcases List.mem_cons.mp hp with e | hp; (rw [e]; exact tbA _ (by simp)); cases hp), (fun p hp => by rcases List.mem_cons.mp hp with e | hp; (rw [e]; exact ntA_L_right); cases hp), (fun p hp => by rcases List.mem_cons.mp hp with e | hp; (rw [e]; exact PySem.W.codeHd_of_K X hdA_L_right); cases hp), (fun p hp => by rcases List.mem_cons.mp hp with e | hp; (rw [e]; exact of_decide_eq_true nyA_L_right); cases hp), fun s v => .of_eq rfl, fun base _ _ tb => ok_law TX (tb (cdA_L_right, ptA_L_right) (by simp)), fun H a ns o h1 h2 h3 h3b h4 => ⟨a, ns, o, rfl, h2, h1, h3, h3b, h4, fun _ => rfl⟩⟩
end MB
open PySem PySem.W PyProof.Rows
set_option maxHeartbeats 0 in
theorem PySem.Challenge.cw_mergebudget_k12_indexes_within_budgets_holds : PySem.Challenge.rw_mergebudget_k12_indexes_within_budgets.Holds := by
  w_on; o_law; k_head; (case hw => w_witness2)
  k_fill
  refine MB.walk_ofT (l := PySem.Challenge.rw_mergebudget_k12_indexes_within_budgets) (n := 63) (k := 68) (x := "_law_script") (sp := MB.sp_law) rfl (by decide) rfl ⟨rfl, by decide, by decide⟩ (by decide +kernel) ?KS (fun w h Y => PySem.W.km_in_of Y) ?F
  case F =>
    intro w mg fa h Y KX G hmg
    refine' MB.all_mk KX G hmg ?a_is_int ?l_is_int ?c_is_int ?k_is_int ?a_is_count ?l_is_count ?c_is_count ?k_is_count ?a_is_count_up_to ?l_is_count_up_to ?c_is_count_up_to ?k_is_count_up_to ?a_check_budgets ?l_check_budgets ?c_check_budgets ?k_check_budgets ?a_is_schedule ?l_is_schedule ?c_is_schedule ?k_is_schedule ?a_stacks ?l_stacks ?c_stacks ?k_stacks ?a_stack_after ?l_stack_after ?c_stack_after ?k_stack_after ?a_writes ?l_writes ?c_writes ?k_writes ?a_run_counts ?l_run_counts ?c_run_counts ?k_run_counts ?a_runs_at_end ?l_runs_at_end ?c_runs_at_end ?k_runs_at_end ?a_check_flushes ?l_check_flushes ?c_check_flushes ?k_check_flushes ?a_counts_within ?l_counts_within ?c_counts_within ?k_counts_within ?a_counts_by_size ?l_counts_by_size ?c_counts_by_size ?k_counts_by_size ?a_index_within ?l_index_within ?c_index_within ?k_index_within ?a_place_of ?l_place_of ?c_place_of ?k_place_of ?a_root_of ?l_root_of ?c_root_of ?k_root_of ?a_schedule_within ?l_schedule_within ?c_schedule_within ?k_schedule_within ?a_schedule_in_place ?l_schedule_in_place ?c_schedule_in_place ?k_schedule_in_place ?a_L_pot ?l_L_pot ?c_L_pot ?k_L_pot ?a_L_take ?l_L_take ?c_L_take ?k_L_take ?a_L_piles ?l_L_piles ?c_L_piles ?k_L_piles ?a_L_written ?l_L_written ?c_L_written ?k_L_written ?a_L_all ?l_L_all ?c_L_all ?k_L_all ?a_L_root ?l_L_root ?c_L_root ?k_L_root ?a_L_refusal ?l_L_refusal ?c_L_refusal ?k_L_refusal ?a_L_within ?l_L_within ?c_L_within ?k_L_within ?a_L_key ?l_L_key ?c_L_key ?k_L_key ?a_L_right ?l_L_right ?c_L_right ?k_L_right ?a_law ?l_law ?c_law ?k_law ?tbA ?hdA_L_right ?ntA_L_right ?nyA_L_right ?z_isinstance ?z_int ?z_bool ?z_tuple ?z_len ?z_enumerate ?z_range ?z_sum ?z_max ?z_zip ?z_divmod ?z_abs ?z_list ?z_repr ?z_ValueError ?z_any ?z_all ?z_sorted ?z_min ?y_MOST_BUDGET ?y_MOST_FLUSHES ?ac_MergeBudgetError ?kc_MergeBudgetError ?kl_MergeBudgetError ?kt_MergeBudgetError ?xp_MergeBudgetError ?xq_MergeBudgetError ?xr_MergeBudgetError ?xs_MergeBudgetError ?xt_MergeBudgetError ?xu_MergeBudgetError ?xi_MergeBudgetError ?ac_InvalidSchedule ?kc_InvalidSchedule ?kl_InvalidSchedule ?kt_InvalidSchedule ?xp_InvalidSchedule ?xq_InvalidSchedule ?xr_InvalidSchedule ?xs_InvalidSchedule ?xt_InvalidSchedule ?xu_InvalidSchedule ?xL_InvalidSchedule ?rv_InvalidSchedule ?ic_InvalidSchedule ?oa_InvalidSchedule ?oe_InvalidSchedule ?of_InvalidSchedule ?il_InvalidSchedule ?ie_InvalidSchedule ?ik_InvalidSchedule ?ac_InvalidTree ?kc_InvalidTree ?kl_InvalidTree ?kt_InvalidTree ?xp_InvalidTree ?xq_InvalidTree ?xr_InvalidTree ?xs_InvalidTree ?xt_InvalidTree ?xu_InvalidTree ?xL_InvalidTree ?rv_InvalidTree ?ic_InvalidTree ?oa_InvalidTree ?oe_InvalidTree ?of_InvalidTree ?il_InvalidTree ?ie_InvalidTree ?ik_InvalidTree ?ac_InvalidCount ?kc_InvalidCount ?kl_InvalidCount ?kt_InvalidCount ?xp_InvalidCount ?xq_InvalidCount ?xr_InvalidCount ?xs_InvalidCount ?xt_InvalidCount ?xu_InvalidCount ?xL_InvalidCount ?rv_InvalidCount ?ic_InvalidCount ?oa_InvalidCount ?oe_InvalidCount ?of_InvalidCount ?il_InvalidCount ?ie_InvalidCount ?ik_InvalidCount ?ac_InvalidIndex ?kc_InvalidIndex ?kl_InvalidIndex ?kt_InvalidIndex ?xp_InvalidIndex ?xq_InvalidIndex ?xr_InvalidIndex ?xs_InvalidIndex ?xt_InvalidIndex ?xu_InvalidIndex ?xL_InvalidIndex ?rv_InvalidIndex ?ic_InvalidIndex ?oa_InvalidIndex ?oe_InvalidIndex ?of_InvalidIndex ?il_InvalidIndex ?ie_InvalidIndex ?ik_InvalidIndex ?ac_InvalidBudget ?kc_InvalidBudget ?kl_InvalidBudget ?kt_InvalidBudget ?xp_InvalidBudget ?xq_InvalidBudget ?xr_InvalidBudget ?xs_InvalidBudget ?xt_InvalidBudget ?xu_InvalidBudget ?xL_InvalidBudget ?rv_InvalidBudget ?ic_InvalidBudget ?oa_InvalidBudget ?oe_InvalidBudget ?of_InvalidBudget ?il_InvalidBudget ?ie_InvalidBudget ?ik_InvalidBudget ?ac_OutsideBudget ?kc_OutsideBudget ?kl_OutsideBudget ?kt_OutsideBudget ?xp_OutsideBudget ?xq_OutsideBudget ?xr_OutsideBudget ?xs_OutsideBudget ?xt_OutsideBudget ?xu_OutsideBudget ?xL_OutsideBudget ?rv_OutsideBudget ?ic_OutsideBudget ?oa_OutsideBudget ?oe_OutsideBudget ?of_OutsideBudget ?il_OutsideBudget ?ie_OutsideBudget ?ik_OutsideBudget ?gsp ?gta ?kits ?kitn ?kitz
    (case a_is_int => k_is); (case l_is_int => k_is); (case c_is_int => k_is); (case k_is_int => k_is); (case a_is_count => k_is); (case l_is_count => k_is); (case c_is_count => k_is); (case k_is_count => k_is); (case a_is_count_up_to => k_is); (case l_is_count_up_to => k_is); (case c_is_count_up_to => k_is); (case k_is_count_up_to => k_is); (case a_check_budgets => k_is); (case l_check_budgets => k_is); (case c_check_budgets => k_is); (case k_check_budgets => k_is); (case a_is_schedule => k_is); (case l_is_schedule => k_is); (case c_is_schedule => k_is); (case k_is_schedule => k_is); (case a_stacks => k_is); (case l_stacks => k_is); (case c_stacks => k_is); (case k_stacks => k_is); (case a_stack_after => k_is); (case l_stack_after => k_is); (case c_stack_after => k_is); (case k_stack_after => k_is); (case a_writes => k_is); (case l_writes => k_is); (case c_writes => k_is); (case k_writes => k_is); (case a_run_counts => k_is); (case l_run_counts => k_is); (case c_run_counts => k_is); (case k_run_counts => k_is); (case a_runs_at_end => k_is); (case l_runs_at_end => k_is); (case c_runs_at_end => k_is); (case k_runs_at_end => k_is); (case a_check_flushes => k_is); (case l_check_flushes => k_is); (case c_check_flushes => k_is); (case k_check_flushes => k_is); (case a_counts_within => k_is); (case l_counts_within => k_is); (case c_counts_within => k_is); (case k_counts_within => k_is); (case a_counts_by_size => k_is); (case l_counts_by_size => k_is); (case c_counts_by_size => k_is); (case k_counts_by_size => k_is); (case a_index_within => k_is); (case l_index_within => k_is); (case c_index_within => k_is); (case k_index_within => k_is); (case a_place_of => k_is); (case l_place_of => k_is); (case c_place_of => k_is); (case k_place_of => k_is); (case a_root_of => k_is); (case l_root_of => k_is); (case c_root_of => k_is); (case k_root_of => k_is); (case a_schedule_within => k_is); (case l_schedule_within => k_is); (case c_schedule_within => k_is); (case k_schedule_within => k_is); (case a_schedule_in_place => k_is); (case l_schedule_in_place => k_is); (case c_schedule_in_place => k_is); (case k_schedule_in_place => k_is); (case a_L_pot => k_is); (case l_L_pot => k_is); (case c_L_pot => k_is); (case k_L_pot => k_is); (case a_L_take => k_is); (case l_L_take => k_is); (case c_L_take => k_is); (case k_L_take => k_is); (case a_L_piles => k_is); (case l_L_piles => k_is); (case c_L_piles => k_is); (case k_L_piles => k_is); (case a_L_written => k_is); (case l_L_written => k_is); (case c_L_written => k_is); (case k_L_written => k_is); (case a_L_all => k_is); (case l_L_all => k_is); (case c_L_all => k_is); (case k_L_all => k_is); (case a_L_root => k_is); (case l_L_root => k_is); (case c_L_root => k_is); (case k_L_root => k_is); (case a_L_refusal => k_is); (case l_L_refusal => k_is); (case c_L_refusal => k_is); (case k_L_refusal => k_is); (case a_L_within => k_is); (case l_L_within => k_is); (case c_L_within => k_is); (case k_L_within => k_is); (case a_L_key => k_is); (case l_L_key => k_is); (case c_L_key => k_is); (case k_L_key => k_is); (case a_L_right => k_is); (case l_L_right => k_is); (case c_L_right => k_is); (case k_L_right => k_is); (case a_law => k_is); (case l_law => k_is); (case c_law => k_is); (case k_law => k_is); (case tbA => exact PySem.W.km_tabs_of Y); (case hdA_L_right => first | k_is | rfl | decide +kernel); (case ntA_L_right => first | k_is | rfl | decide +kernel); (case nyA_L_right => first | k_is | rfl | decide +kernel); (case z_isinstance => k_is); (case z_int => k_is); (case z_bool => k_is); (case z_tuple => k_is); (case z_len => k_is); (case z_enumerate => k_is); (case z_range => k_is); (case z_sum => k_is); (case z_max => k_is); (case z_zip => k_is); (case z_divmod => k_is); (case z_abs => k_is); (case z_list => k_is); (case z_repr => k_is); (case z_ValueError => k_is); (case z_any => k_is); (case z_all => k_is); (case z_sorted => k_is); (case z_min => k_is); (case y_MOST_BUDGET => k_is); (case y_MOST_FLUSHES => k_is); (case ac_MergeBudgetError => k_is); (case kc_MergeBudgetError => k_is); (case kl_MergeBudgetError => k_is); (case kt_MergeBudgetError => k_is); (case xp_MergeBudgetError => k_is); (case xq_MergeBudgetError => k_is); (case xr_MergeBudgetError => k_is); (case xs_MergeBudgetError => k_is); (case xt_MergeBudgetError => k_is); (case xu_MergeBudgetError => k_is); (case xi_MergeBudgetError => first | k_exc | k_is); (case ac_InvalidSchedule => k_is); (case kc_InvalidSchedule => k_is); (case kl_InvalidSchedule => k_is); (case kt_InvalidSchedule => k_is); (case xp_InvalidSchedule => k_is); (case xq_InvalidSchedule => k_is); (case xr_InvalidSchedule => k_is); (case xs_InvalidSchedule => k_is); (case xt_InvalidSchedule => k_is); (case xu_InvalidSchedule => k_is); (case xL_InvalidSchedule => k_is); (case rv_InvalidSchedule => decide +kernel); (case ic_InvalidSchedule => k_is); (case oa_InvalidSchedule => k_is); (case oe_InvalidSchedule => k_is); (case of_InvalidSchedule => k_is); (case il_InvalidSchedule => k_is); (case ie_InvalidSchedule => k_is); (case ik_InvalidSchedule => k_is); (case ac_InvalidTree => k_is); (case kc_InvalidTree => k_is); (case kl_InvalidTree => k_is); (case kt_InvalidTree => k_is); (case xp_InvalidTree => k_is); (case xq_InvalidTree => k_is); (case xr_InvalidTree => k_is); (case xs_InvalidTree => k_is); (case xt_InvalidTree => k_is); (case xu_InvalidTree => k_is); (case xL_InvalidTree => k_is); (case rv_InvalidTree => decide +kernel); (case ic_InvalidTree => k_is); (case oa_InvalidTree => k_is); (case oe_InvalidTree => k_is); (case of_InvalidTree => k_is); (case il_InvalidTree => k_is); (case ie_InvalidTree => k_is); (case ik_InvalidTree => k_is); (case ac_InvalidCount => k_is); (case kc_InvalidCount => k_is); (case kl_InvalidCount => k_is); (case kt_InvalidCount => k_is); (case xp_InvalidCount => k_is); (case xq_InvalidCount => k_is); (case xr_InvalidCount => k_is); (case xs_InvalidCount => k_is); (case xt_InvalidCount => k_is); (case xu_InvalidCount => k_is); (case xL_InvalidCount => k_is); (case rv_InvalidCount => decide +kernel); (case ic_InvalidCount => k_is); (case oa_InvalidCount => k_is); (case oe_InvalidCount => k_is); (case of_InvalidCount => k_is); (case il_InvalidCount => k_is); (case ie_InvalidCount => k_is); (case ik_InvalidCount => k_is); (case ac_InvalidIndex => k_is); (case kc_InvalidIndex => k_is); (case kl_InvalidIndex => k_is); (case kt_InvalidIndex => k_is); (case xp_InvalidIndex => k_is); (case xq_InvalidIndex => k_is); (case xr_InvalidIndex => k_is); (case xs_InvalidIndex => k_is); (case xt_InvalidIndex => k_is); (case xu_InvalidIndex => k_is); (case xL_InvalidIndex => k_is); (case rv_InvalidIndex => decide +kernel); (case ic_InvalidIndex => k_is); (case oa_InvalidIndex => k_is); (case oe_InvalidIndex => k_is); (case of_InvalidIndex => k_is); (case il_InvalidIndex => k_is); (case ie_InvalidIndex => k_is); (case ik_InvalidIndex => k_is); (case ac_InvalidBudget => k_is); (case kc_InvalidBudget => k_is); (case kl_InvalidBudget => k_is); (case kt_InvalidBudget => k_is); (case xp_InvalidBudget => k_is); (case xq_InvalidBudget => k_is); (case xr_InvalidBudget => k_is); (case xs_InvalidBudget => k_is); (case xt_InvalidBudget => k_is); (case xu_InvalidBudget => k_is); (case xL_InvalidBudget => k_is); (case rv_InvalidBudget => decide +kernel); (case ic_InvalidBudget => k_is); (case oa_InvalidBudget => k_is); (case oe_InvalidBudget => k_is); (case of_InvalidBudget => k_is); (case il_InvalidBudget => k_is); (case ie_InvalidBudget => k_is); (case ik_InvalidBudget => k_is); (case ac_OutsideBudget => k_is); (case kc_OutsideBudget => k_is); (case kl_OutsideBudget => k_is); (case kt_OutsideBudget => k_is); (case xp_OutsideBudget => k_is); (case xq_OutsideBudget => k_is); (case xr_OutsideBudget => k_is); (case xs_OutsideBudget => k_is); (case xt_OutsideBudget => k_is); (case xu_OutsideBudget => k_is); (case xL_OutsideBudget => k_is); (case rv_OutsideBudget => decide +kernel); (case ic_OutsideBudget => k_is); (case oa_OutsideBudget => k_is); (case oe_OutsideBudget => k_is); (case of_OutsideBudget => k_is); (case il_OutsideBudget => k_is); (case ie_OutsideBudget => k_is); (case ik_OutsideBudget => k_is); (case gsp => k_is); (case gta => k_is); (case kits => decide +kernel); (case kitn => decide +kernel); (case kitz => decide +kernel)
  case KS => exact fun p => by first | rfl | decide +kernel | k_is
