import PyProof.Rows.All
import Wide.All
import OpenK.AllK
import Wide.FinOn
import HandS.ForMost
import HandS.IsInst
import HandS.Wide
import HandS.TupAny
import HandS.TupMul
import HandS.Rev
import HandS.Style
import HandS.Strs
import HandS.Walk
import KE.GoesEnum
import PyProof.ReprRoads
import PyProof.ReprBulk
import HandS.Dict
import HandS.WideMore
import HandS.ExcInit
import HandS.ExcField
import HandS.ExcIs
import HandS.ExcValue
import KE.KExcIs
import HandS.Exc
import HandS.Lambda
import HandS.EndTab
import KE.KNestM
import HandS.WordsExc
import KE.DataFind
import HandS.SortKw
import HandS.SortInts
import KE.DataMinMax
import HandS.List
import PySem.Challenge.RW_mergebudget_k10_indexes_of_long_schedule
set_option Elab.async false
set_option linter.all false
set_option maxRecDepth 100000
namespace MB
inductive T where
  | nil
  | node (l r : T)
  deriving DecidableEq

namespace T
def size : T → Nat
  | nil => 0
  | node l r => l.size + 1 + r.size
def runs : T → Nat
  | nil => 0
  | node _ r => 1 + r.runs
def sch : T → List Nat
  | nil => []
  | node l r => l.sch ++ l.runs :: r.sch
def rc : T → List Nat
  | nil => []
  | node l r => l.rc ++ 1 :: r.rc.map (· + 1)
def wr : T → List Nat
  | nil => []
  | node l r => l.wr.map (· + 1) ++ 1 :: r.wr
/-- parents: off, the number of the first node; p, the parent of the root -/
def par (off p : Int) : T → List Int
  | nil => []
  | node l r => par off (off + l.size) l ++ p :: par (off + l.size + 1) (off + l.size) r
def mir : T → T
  | nil => nil
  | node l r => node r.mir l.mir
def push (t : T) (m : Nat) : T :=
  if m = t.runs then node t nil else match t with
    | nil => nil
    | node l r => node l (push r m)
/-- the first flush of the run that a flush that merges m writes -/
def start (t : T) (m : Nat) : Nat :=
  if m = t.runs then 0 else match t with
    | nil => 0
    | node l r => l.size + 1 + start r m
/-- the stack: intervals of the right spine -/
def stk (off : Nat) : T → List (Nat × Nat)
  | nil => []
  | node l r => (off, off + l.size + 1) :: stk (off + l.size + 1) r
def graft : T → T → T
  | nil, t => t
  | node l r, t => node l (graft r t)

theorem sch_len : ∀ t : T, t.sch.length = t.size
  | nil => rfl
  | node l r => by simp [sch, size, sch_len l, sch_len r]; omega
theorem rc_len : ∀ t : T, t.rc.length = t.size
  | nil => rfl
  | node l r => by simp [rc, size, rc_len l, rc_len r]; omega
theorem wr_len : ∀ t : T, t.wr.length = t.size
  | nil => rfl
  | node l r => by simp [wr, size, wr_len l, wr_len r]; omega
theorem par_len : ∀ (t : T) (off p : Int), (t.par off p).length = t.size
  | nil, _, _ => rfl
  | node l r, off, p => by simp [par, size, par_len l, par_len r]; omega
theorem runs_le : ∀ t : T, t.runs ≤ t.size
  | nil => Nat.le_refl _
  | node l r => by have := runs_le r; simp [runs, size]; omega
theorem sum_sch : ∀ t : T, t.sch.sum + t.runs = t.size
  | nil => rfl
  | node l r => by
    have h1 := sum_sch l; have h2 := sum_sch r
    simp [sch, runs, size, List.sum_append]; omega
theorem stk_len : ∀ (t : T) (off : Nat), (t.stk off).length = t.runs
  | nil, _ => rfl
  | node l r, off => by simp [stk, runs, stk_len r]; omega

/-! ### push -/
theorem push_eq {t : T} : t.push t.runs = node t nil := by
  unfold push; rw [if_pos rfl]
theorem push_node {l r : T} {m : Nat} (h : m ≤ r.runs) : (node l r).push m = node l (r.push m) := by
  conv => lhs; unfold push
  rw [if_neg (by simp [runs]; omega)]
theorem start_eq {t : T} : t.start t.runs = 0 := by
  unfold start; rw [if_pos rfl]
theorem start_node {l r : T} {m : Nat} (h : m ≤ r.runs) : (node l r).start m = l.size + 1 + r.start m := by
  conv => lhs; unfold start
  rw [if_neg (by simp [runs]; omega)]
/-- the two ways of a push -/
theorem push_ind {C : T → Nat → Prop} (h1 : ∀ t, C t t.runs) (h2 : ∀ l r m, m ≤ r.runs → C r m → C (node l r) m) : ∀ (t : T) (m : Nat), m ≤ t.runs → C t m
  | nil, m, h => by
    have : m = nil.runs := by simp [runs] at h ⊢; omega
    rw [this]; exact h1 nil
  | node l r, m, h => by
    by_cases e : m = (node l r).runs
    · rw [e]; exact h1 _
    · have hm : m ≤ r.runs := by simp [runs] at h e; omega
      exact h2 l r m hm (push_ind h1 h2 r m hm)
theorem push_sch : ∀ (t : T) (m : Nat), m ≤ t.runs → (t.push m).sch = t.sch ++ [m] :=
  push_ind (fun t => by rw [push_eq]; simp [sch]) fun l r m h ih => by rw [push_node h]; simp [sch, ih]
theorem push_size : ∀ (t : T) (m : Nat), m ≤ t.runs → (t.push m).size = t.size + 1 :=
  push_ind (fun t => by rw [push_eq]; simp [size]) fun l r m h ih => by rw [push_node h]; simp [size, ih]; omega
theorem push_runs : ∀ (t : T) (m : Nat), m ≤ t.runs → (t.push m).runs = t.runs - m + 1 :=
  push_ind (fun t => by rw [push_eq]; simp [runs]) fun l r m h ih => by rw [push_node h]; simp [runs, ih]; omega
theorem push_rc : ∀ (t : T) (m : Nat), m ≤ t.runs → (t.push m).rc = t.rc ++ [t.runs - m + 1] :=
  push_ind (fun t => by rw [push_eq]; simp [rc]) fun l r m h ih => by
    rw [push_node h]; simp [rc, ih, runs]; omega
theorem start_le : ∀ (t : T) (m : Nat), m ≤ t.runs → t.start m ≤ t.size :=
  push_ind (fun t => by rw [start_eq]; omega) fun l r m h ih => by rw [start_node h]; simp [size]; omega
theorem push_wr : ∀ (t : T) (m : Nat), m ≤ t.runs → (t.push m).wr = t.wr.take (t.start m) ++ ((t.wr.drop (t.start m)).map (· + 1) ++ [1]) :=
  push_ind (fun t => by rw [push_eq, start_eq]; simp [wr]) fun l r m h ih => by
    rw [push_node h, start_node h]
    have e : (wr (node l r)) = (l.wr.map (· + 1) ++ [1]) ++ r.wr := by simp [wr]
    have el : (l.wr.map (· + 1) ++ [1]).length = l.size + 1 := by simp [wr_len]
    rw [e, List.take_append, List.drop_append, el]
    rw [List.take_of_length_le (by rw [el]; omega), List.drop_eq_nil_of_le (by rw [el]; omega)]
    rw [show l.size + 1 + r.start m - (l.size + 1) = r.start m by omega]
    simp [wr, ih]
theorem stk_push : ∀ (t : T) (m : Nat), m ≤ t.runs → ∀ off, (t.push m).stk off = (t.stk off).take (t.runs - m) ++ [(off + t.start m, off + t.size + 1)] :=
  push_ind (fun t off => by rw [push_eq, start_eq]; simp [stk]) fun l r m h ih off => by
    rw [push_node h, start_node h]
    have hh : (node l r).runs - m = (r.runs - m) + 1 := by simp [runs]; omega
    rw [hh]
    simp [stk, ih, size]
    omega
theorem stk_at : ∀ (t : T) (m : Nat), m ≤ t.runs → ∀ off, 0 < m → ∃ e, (t.stk off)[t.runs - m]? = some (off + t.start m, e) :=
  push_ind (fun t off h => by
      rw [start_eq, Nat.sub_self]
      cases t with
      | nil => simp [runs] at h
      | node l r => exact ⟨_, rfl⟩) fun l r m h ih off h0 => by
    rw [start_node h]
    have hh : (node l r).runs - m = (r.runs - m) + 1 := by simp [runs]; omega
    rw [hh]
    obtain ⟨e, he⟩ := ih (off + l.size + 1) h0
    refine ⟨e, ?_⟩
    simp only [stk, List.getElem?_cons_succ, he]
    congr 2; omega
theorem start_zero : ∀ (t : T) (m : Nat), m ≤ t.runs → m = 0 → t.start m = t.size :=
  push_ind (fun t h => by
      rw [start_eq]
      cases t with
      | nil => rfl
      | node l r => simp [runs] at h) fun l r m h ih h0 => by
    rw [start_node h, ih h0]; simp [size]

/-! ### schedules and trees -/
theorem graft_nil : ∀ t : T, t.graft nil = t
  | nil => rfl
  | node l r => by simp [graft, graft_nil r]
theorem graft_assoc : ∀ a b c : T, (a.graft b).graft c = a.graft (b.graft c)
  | nil, _, _ => rfl
  | node l r, b, c => by simp [graft, graft_assoc r b c]
theorem graft_runs : ∀ a b : T, (a.graft b).runs = a.runs + b.runs
  | nil, b => by simp [graft, runs]
  | node l r, b => by simp [graft, runs, graft_runs r b]; omega
theorem graft_push : ∀ (u l : T), (u.graft l).push l.runs = u.graft (node l nil)
  | nil, l => by simp [graft, push_eq]
  | node a b, l => by
    simp only [graft]
    rw [push_node (by rw [graft_runs]; omega), graft_push b l]
theorem foldl_sch : ∀ (t u : T), t.sch.foldl push u = u.graft t
  | nil, u => by simp [sch, graft_nil]
  | node l r, u => by
    simp only [sch, List.foldl_append, List.foldl_cons]
    rw [foldl_sch l u, graft_push, foldl_sch r, graft_assoc]
    rfl
theorem sch_inj {a b : T} (h : a.sch = b.sch) : a = b := by
  have e1 := foldl_sch a nil
  have e2 := foldl_sch b nil
  rw [h, e2] at e1
  exact e1.symm
end T

/-- a schedule that begins with `runs` runs -/
def Ok : Nat → List Nat → Prop
  | _, [] => True
  | k, m :: r => m ≤ k ∧ Ok (k - m + 1) r
theorem ok_tree : ∀ (p : List Nat) (u : T), Ok u.runs p → ∃ t : T, t.sch = u.sch ++ p ∧ p.foldl T.push u = t
  | [], u, _ => ⟨u, by simp, rfl⟩
  | m :: r, u, h => by
    obtain ⟨h1, h2⟩ := h
    rw [← T.push_runs u m h1] at h2
    obtain ⟨t, e1, e2⟩ := ok_tree r (u.push m) h2
    exact ⟨t, by rw [e1, T.push_sch u m h1]; simp, e2⟩
theorem tree_ex {p : List Nat} (h : Ok 0 p) : ∃ t : T, t.sch = p := by
  obtain ⟨t, e, _⟩ := ok_tree p .nil h
  exact ⟨t, by rw [e]; rfl⟩
theorem ok_app : ∀ (p q : List Nat) (k k' : Nat), Ok k p → k' + p.sum = k + p.length → Ok k' q → Ok k (p ++ q)
  | [], q, k, k', _, e, h => by
    have : k' = k := by simpa using e
    subst this; exact h
  | m :: r, q, k, k', h, e, hq => ⟨h.1, ok_app r q (k - m + 1) k' h.2 (by have := h.1; simp at e; omega) hq⟩
theorem ok_sch_from : ∀ (t : T) (k : Nat), Ok k t.sch
  | .nil, _ => trivial
  | .node l r, k => by
    refine ok_app l.sch _ k (k + l.runs) (ok_sch_from l k) (by have := T.sum_sch l; rw [T.sch_len]; omega) ?_
    exact ⟨by omega, ok_sch_from r _⟩
theorem ok_take : ∀ (p : List Nat) (k i : Nat), Ok k p → Ok k (p.take i)
  | [], _, i, _ => by cases i <;> trivial
  | m :: r, k, 0, _ => trivial
  | m :: r, k, i + 1, h => ⟨h.1, ok_take r _ i h.2⟩
/-- the tree of the first i flushes -/
def pre (t : T) (i : Nat) : T := (t.sch.take i).foldl T.push .nil
theorem pre_sch (t : T) (i : Nat) : (pre t i).sch = t.sch.take i := by
  obtain ⟨u, e1, e2⟩ := ok_tree (t.sch.take i) .nil (ok_take _ _ i (ok_sch_from t _))
  unfold pre; rw [e2, e1]; rfl
theorem pre_size {t : T} {i : Nat} (h : i ≤ t.size) : (pre t i).size = i := by
  rw [← T.sch_len, pre_sch, List.length_take, T.sch_len]; omega
theorem pre_zero (t : T) : pre t 0 = .nil := rfl
theorem pre_all (t : T) : pre t t.size = t := T.sch_inj (by rw [pre_sch, List.take_of_length_le (by rw [T.sch_len]; exact Nat.le_refl _)])
theorem ok_last : ∀ (p : List Nat) (k m : Nat) (q : List Nat), Ok k (p ++ m :: q) → m + p.sum ≤ k + p.length
  | [], k, m, q, h => by simpa using h.1
  | a :: r, k, m, q, h => by
    have := ok_last r (k - a + 1) m q h.2
    have h1 := h.1
    simp; omega
theorem pre_succ {t : T} {i : Nat} {m : Nat} (h : t.sch[i]? = some m) : pre t (i + 1) = (pre t i).push m ∧ m ≤ (pre t i).runs := by
  have hi : i < t.sch.length := (List.getElem?_eq_some_iff.mp h).1
  constructor
  · unfold pre
    rw [List.take_add_one, h]
    simp
  · have e : t.sch = t.sch.take i ++ m :: t.sch.drop (i + 1) := by
      have h2 := List.getElem?_eq_some_iff.mp h
      obtain ⟨h3, h4⟩ := h2
      rw [← h4]
      simp
    have h1 := ok_sch_from t 0
    rw [e] at h1
    have h2 := ok_last _ _ _ _ h1
    have h3 := T.sum_sch (pre t i)
    rw [pre_sch] at h3
    have h4 : (pre t i).size = (t.sch.take i).length := by rw [← T.sch_len, pre_sch]
    omega
theorem rc_take : ∀ (t : T) (i : Nat), (pre t i).rc = t.rc.take i := by
  intro t i
  by_cases hi : i ≤ t.size
  · suffices h : ∀ k, i + k = t.size → (pre t i).rc = t.rc.take i from h (t.size - i) (by omega)
    intro k
    induction k generalizing i with
    | zero =>
      intro e
      rw [show i = t.size by omega, pre_all, List.take_of_length_le (by rw [T.rc_len]; omega)]
    | succ k ih =>
      intro e
      have hl : i < t.sch.length := by rw [T.sch_len]; omega
      obtain ⟨e1, h1⟩ := pre_succ (List.getElem?_eq_getElem hl)
      have h2 := ih (i + 1) (by omega) (by omega)
      rw [e1, T.push_rc _ _ h1] at h2
      have h3 := congrArg (List.take i) h2
      rw [List.take_append_of_le_length (by rw [T.rc_len, pre_size (by omega)]; omega), List.take_take, List.take_of_length_le (by rw [T.rc_len, pre_size (by omega)]; omega)] at h3
      rw [h3]; congr 1; omega
  · have e : t.sch.take i = t.sch := List.take_of_length_le (by rw [T.sch_len]; omega)
    have : pre t i = t := T.sch_inj (by rw [pre_sch, e])
    rw [this, List.take_of_length_le (by rw [T.rc_len]; omega)]
theorem rc_at {t : T} {i m : Nat} (h : t.sch[i]? = some m) : t.rc[i]? = some ((pre t i).runs - m + 1) := by
  obtain ⟨e1, h1⟩ := pre_succ h
  have hi : i < t.size := by rw [← T.sch_len]; exact (List.getElem?_eq_some_iff.mp h).1
  have h2 := rc_take t (i + 1)
  rw [e1, T.push_rc _ _ h1] at h2
  have h3 := congrArg (fun l : List Nat => l[i]?) h2
  simp only [List.getElem?_take] at h3
  rw [List.getElem?_append_right (by rw [T.rc_len, pre_size (by omega)]; omega), T.rc_len, pre_size (by omega)] at h3
  simp at h3
  exact h3.symm
theorem pre_runs {t : T} {i : Nat} (h : i < t.size) : t.rc[i]? = some (pre t (i + 1)).runs := by
  have hl : i < t.sch.length := by rw [T.sch_len]; exact h
  obtain ⟨e1, h1⟩ := pre_succ (List.getElem?_eq_getElem hl)
  rw [rc_at (List.getElem?_eq_getElem hl), e1, T.push_runs _ _ h1]
/-! ### write counts by place -/
theorem wr_step {t : T} {m : Nat} (h : m ≤ t.runs) (k : Nat) : ((t.push m).wr.getD k 0) = if t.start m ≤ k ∧ k < t.size + 1 then t.wr.getD k 0 + 1 else t.wr.getD k 0 := by
  have hs := T.start_le t m h
  have hl := T.wr_len t
  rw [T.push_wr t m h]
  simp only [List.getD_eq_getElem?_getD]
  by_cases h1 : k < t.start m
  · rw [List.getElem?_append_left (by rw [List.length_take]; omega), List.getElem?_take, if_pos h1, if_neg (by omega)]
  · have e : (t.wr.take (t.start m)).length = t.start m := by rw [List.length_take]; omega
    rw [List.getElem?_append_right (by omega), e]
    by_cases h2 : k < t.size
    · rw [List.getElem?_append_left (by rw [List.length_map, List.length_drop]; omega), List.getElem?_map, List.getElem?_drop, if_pos (by omega), show t.start m + (k - t.start m) = k by omega]
      rw [List.getElem?_eq_getElem (by omega)]
      rfl
    · by_cases h3 : k = t.size
      · have e2 : ((t.wr.drop (t.start m)).map (· + 1)).length = k - t.start m := by rw [List.length_map, List.length_drop]; omega
        rw [List.getElem?_append_right (by omega), e2, Nat.sub_self, if_pos (by omega), List.getElem?_eq_none (by omega : t.wr.length ≤ k)]
        rfl
      · rw [List.getElem?_eq_none (by simp; omega), if_neg (by omega), List.getElem?_eq_none (by omega : t.wr.length ≤ k)]
theorem list_by {c d : List Nat} (hl : c.length = d.length) (h : ∀ k, k < c.length → c[k]? = some (d.getD k 0)) : c = d := by
  refine List.ext_getElem? fun k => ?_
  by_cases hk : k < c.length
  · rw [h k hk, List.getD_eq_getElem?_getD, List.getElem?_eq_getElem (by omega)]
    rfl
  · rw [List.getElem?_eq_none (by omega), List.getElem?_eq_none (by omega)]
theorem stk_last {t : T} {i m : Nat} (h : t.sch[i]? = some m) : (pre t (i + 1)).stk 0 = ((pre t i).stk 0).take ((pre t i).runs - m) ++ [((pre t i).start m, i + 1)] := by
  obtain ⟨e, h1⟩ := pre_succ h
  have hi : i < t.size := by rw [← T.sch_len]; exact (List.getElem?_eq_some_iff.mp h).1
  rw [e, T.stk_push _ _ h1, Nat.zero_add, Nat.zero_add, pre_size (by omega)]

/-! ### subtrees -/
inductive Sub (t : T) : Nat → T → Nat → Int → Prop
  | root : Sub t 0 t 1 (-1)
  | left {off k : Nat} {p : Int} {l r : T} : Sub t off (.node l r) k p → Sub t off l k ((off + l.size : Nat) : Int)
  | right {off k : Nat} {p : Int} {l r : T} : Sub t off (.node l r) k p → Sub t (off + l.size + 1) r (k + 1) ((off + l.size : Nat) : Int)
def T.parOf (t : T) : List Int := t.par 0 (-1)
theorem slice_left {α : Type} {L a b : List α} {x : α} {off : Nat} (h : (L.drop off).take (a.length + 1 + b.length) = a ++ x :: b) : (L.drop off).take a.length = a := by
  have := congrArg (List.take a.length) h
  rw [List.take_take, List.take_left' rfl, show min a.length (a.length + 1 + b.length) = a.length by omega] at this
  exact this
theorem slice_mid {α : Type} {L a b : List α} {x : α} {off : Nat} (h : (L.drop off).take (a.length + 1 + b.length) = a ++ x :: b) : L[off + a.length]? = some x := by
  have := congrArg (fun l : List α => l[a.length]?) h
  simp only [List.getElem?_take, List.getElem?_drop] at this
  rw [if_pos (by omega), List.getElem?_append_right (Nat.le_refl _), Nat.sub_self] at this
  simpa using this
theorem slice_right {α : Type} {L a b : List α} {x : α} {off : Nat} (h : (L.drop off).take (a.length + 1 + b.length) = a ++ x :: b) : (L.drop (off + a.length + 1)).take b.length = b := by
  have := congrArg (List.drop (a.length + 1)) h
  rw [List.drop_take, List.drop_drop] at this
  have e2 : List.drop (a.length + 1) (a ++ x :: b) = b := by
    rw [List.drop_append]; simp
  rw [e2] at this
  have h2 := congrArg (List.take b.length) this
  rw [List.take_take, List.take_length] at h2
  rw [← Nat.add_assoc] at h2
  rw [show b.length = min b.length (a.length + 1 + b.length - (a.length + 1)) by omega]
  exact h2
theorem sub_le {t : T} {off k : Nat} {s : T} {p : Int} (h : Sub t off s k p) : off + s.size ≤ t.size ∧ 1 ≤ k ∧ k ≤ off + 1 := by
  induction h with
  | root => exact ⟨by omega, by omega, by omega⟩
  | left _ ih => simp only [T.size] at ih; omega
  | right _ ih => simp only [T.size] at ih; omega
theorem sub_out {t : T} {off k : Nat} {s : T} {p : Int} (h : Sub t off s k p) : (p = -1 ∨ ((0 ≤ p ∧ p < t.size) ∧ (p + 1 = off ∨ p = ((off + s.size : Nat) : Int)))) := by
  cases h with
  | root => exact .inl rfl
  | left h => have := sub_le h; simp only [T.size] at this; exact .inr ⟨by omega, .inr rfl⟩
  | right h => have := sub_le h; simp only [T.size] at this; exact .inr ⟨by omega, .inl (by omega)⟩
theorem sub_rc {t : T} {off k : Nat} {s : T} {p : Int} (h : Sub t off s k p) : (t.rc.drop off).take s.size = s.rc.map (· + (k - 1)) := by
  induction h with
  | root => simp [← T.rc_len]
  | @left off k p l r h ih =>
    have e : (T.node l r).rc.map (· + (k - 1)) = l.rc.map (· + (k - 1)) ++ (1 + (k - 1)) :: (r.rc.map (· + 1)).map (· + (k - 1)) := by simp [T.rc]
    rw [e] at ih
    have hl : (l.rc.map (· + (k - 1))).length = l.size := by rw [List.length_map, T.rc_len]
    have hr : ((r.rc.map (· + 1)).map (· + (k - 1))).length = r.size := by rw [List.length_map, List.length_map, T.rc_len]
    have := slice_left (a := l.rc.map (· + (k - 1))) (b := (r.rc.map (· + 1)).map (· + (k - 1))) (L := t.rc) (off := off) (x := 1 + (k - 1)) (by rw [hl, hr]; exact ih)
    rw [hl] at this
    exact this
  | @right off k p l r h ih =>
    have e : (T.node l r).rc.map (· + (k - 1)) = l.rc.map (· + (k - 1)) ++ (1 + (k - 1)) :: (r.rc.map (· + 1)).map (· + (k - 1)) := by simp [T.rc]
    rw [e] at ih
    have hl : (l.rc.map (· + (k - 1))).length = l.size := by rw [List.length_map, T.rc_len]
    have hr : ((r.rc.map (· + 1)).map (· + (k - 1))).length = r.size := by rw [List.length_map, List.length_map, T.rc_len]
    have := slice_right (a := l.rc.map (· + (k - 1))) (b := (r.rc.map (· + 1)).map (· + (k - 1))) (L := t.rc) (off := off) (x := 1 + (k - 1)) (by rw [hl, hr]; exact ih)
    rw [hl, hr] at this
    rw [this, List.map_map]
    refine List.map_congr_left fun a _ => ?_
    have := (sub_le h).2.1
    simp only [Function.comp]
    omega
theorem sub_par {t : T} {off k : Nat} {s : T} {p : Int} (h : Sub t off s k p) : (t.parOf.drop off).take s.size = s.par (off : Int) p := by
  induction h with
  | root => simp only [T.parOf]; rw [List.drop_zero, List.take_of_length_le (by rw [T.par_len]; omega)]; rfl
  | @left off k p l r h ih =>
    simp only [T.par] at ih
    have hl := T.par_len l (off : Int) ((off : Int) + l.size)
    have hr := T.par_len r ((off : Int) + l.size + 1) ((off : Int) + l.size)
    have := slice_left (a := l.par (off : Int) ((off : Int) + l.size)) (b := r.par ((off : Int) + l.size + 1) ((off : Int) + l.size)) (L := t.parOf) (off := off) (x := p) (by rw [hl, hr]; exact ih)
    rw [hl] at this
    rw [this, Int.natCast_add]
  | @right off k p l r h ih =>
    simp only [T.par] at ih
    have hl := T.par_len l (off : Int) ((off : Int) + l.size)
    have hr := T.par_len r ((off : Int) + l.size + 1) ((off : Int) + l.size)
    have := slice_right (a := l.par (off : Int) ((off : Int) + l.size)) (b := r.par ((off : Int) + l.size + 1) ((off : Int) + l.size)) (L := t.parOf) (off := off) (x := p) (by rw [hl, hr]; exact ih)
    rw [hl, hr] at this
    rw [this]
    simp only [Int.natCast_add]
    rfl
theorem sub_root {t : T} {off k : Nat} {l r : T} {p : Int} (h : Sub t off (.node l r) k p) : t.parOf[off + l.size]? = some p := by
  have ih := sub_par h
  simp only [T.par] at ih
  have hl := T.par_len l (off : Int) ((off : Int) + l.size)
  have hr := T.par_len r ((off : Int) + l.size + 1) ((off : Int) + l.size)
  have := slice_mid (a := l.par (off : Int) ((off : Int) + l.size)) (b := r.par ((off : Int) + l.size + 1) ((off : Int) + l.size)) (L := t.parOf) (off := off) (x := p) (by rw [hl, hr]; exact ih)
  rw [hl] at this
  exact this
/-- the parents of a subtree: the root's alone lies outside -/
theorem par_in : ∀ (s : T) (off p : Int) (i : Nat) (q : Int), (s.par off p)[i]? = some q → (∃ l r, s = .node l r ∧ i = l.size ∧ q = p) ∨ (off ≤ q ∧ q < off + s.size ∧ ∀ l r, s = .node l r → i ≠ l.size)
  | .nil, _, _, _, _, h => by simp [T.par] at h
  | .node l r, off, p, i, q, h => by
    simp only [T.par] at h
    have hl := T.par_len l off (off + l.size)
    by_cases h1 : i < l.size
    · rw [List.getElem?_append_left (by omega)] at h
      refine .inr ?_
      rcases par_in l off (off + l.size) i q h with ⟨a, b, e, e2, e3⟩ | ⟨h2, h3, _⟩
      · refine ⟨by omega, by simp only [T.size]; omega, fun l' r' e' => by cases e'; omega⟩
      · refine ⟨by omega, by simp only [T.size]; omega, fun l' r' e' => by cases e'; omega⟩
    · rw [List.getElem?_append_right (by omega), hl] at h
      by_cases h2 : i = l.size
      · subst h2
        rw [Nat.sub_self] at h
        have : p = q := by simpa using h
        exact .inl ⟨l, r, rfl, rfl, this.symm⟩
      · obtain ⟨j, e⟩ : ∃ j, i - l.size = j + 1 := ⟨i - l.size - 1, by omega⟩
        rw [e, List.getElem?_cons_succ] at h
        refine .inr ?_
        rcases par_in r (off + l.size + 1) (off + l.size) j q h with ⟨a, b, e4, e2, e3⟩ | ⟨h4, h3, _⟩
        · refine ⟨by omega, by simp only [T.size]; omega, fun l' r' e' => by cases e'; omega⟩
        · refine ⟨by omega, by simp only [T.size]; omega, fun l' r' e' => by cases e'; omega⟩
theorem rc_pos : ∀ (s : T) (i v : Nat), s.rc[i]? = some v → 1 ≤ v
  | .nil, _, _, h => by simp [T.rc] at h
  | .node l r, i, v, h => by
    simp only [T.rc] at h
    by_cases h1 : i < l.size
    · rw [List.getElem?_append_left (by rw [T.rc_len]; exact h1)] at h
      exact rc_pos l i v h
    · rw [List.getElem?_append_right (by rw [T.rc_len]; omega), T.rc_len] at h
      rcases Nat.eq_zero_or_pos (i - l.size) with e | e
      · rw [e] at h; simp at h; omega
      · obtain ⟨j, e⟩ : ∃ j, i - l.size = j + 1 := ⟨i - l.size - 1, by omega⟩
        rw [e, List.getElem?_cons_succ, List.getElem?_map] at h
        cases h2 : r.rc[j]? with
        | none => rw [h2] at h; cases h
        | some u => rw [h2] at h; simp at h; omega
theorem rc_one {l r : T} {i : Nat} (h : (T.node l r).rc[i]? = some 1) : i ≤ l.size := by
  simp only [T.rc] at h
  by_cases h1 : i ≤ l.size
  · exact h1
  · rw [List.getElem?_append_right (by rw [T.rc_len]; omega), T.rc_len] at h
    obtain ⟨j, e⟩ : ∃ j, i - l.size = j + 1 := ⟨i - l.size - 1, by omega⟩
    rw [e, List.getElem?_cons_succ, List.getElem?_map] at h
    cases h2 : r.rc[j]? with
    | none => rw [h2] at h; cases h
    | some u =>
      have := rc_pos r j u h2
      rw [h2] at h; simp at h; omega
theorem rc_root (l r : T) : (T.node l r).rc[l.size]? = some 1 := by
  simp only [T.rc]
  rw [List.getElem?_append_right (by rw [T.rc_len]; exact Nat.le_refl _), T.rc_len, Nat.sub_self]; rfl
theorem sub_rc_at {t : T} {off k : Nat} {s : T} {p : Int} (h : Sub t off s k p) {i : Nat} (hi : i < s.size) : ∃ v, s.rc[i]? = some v ∧ t.rc[off + i]? = some (v + (k - 1)) := by
  have e := congrArg (fun l : List Nat => l[i]?) (sub_rc h)
  simp only [List.getElem?_take, List.getElem?_drop, List.getElem?_map] at e
  rw [if_pos hi] at e
  have hv := List.getElem?_eq_getElem (show i < s.rc.length by rw [T.rc_len]; exact hi)
  rw [hv] at e
  exact ⟨_, hv, e⟩
theorem sub_par_at {t : T} {off k : Nat} {s : T} {p : Int} (h : Sub t off s k p) {i : Nat} (hi : i < s.size) : ∃ q, (s.par (off : Int) p)[i]? = some q ∧ t.parOf[off + i]? = some q := by
  have e := congrArg (fun l : List Int => l[i]?) (sub_par h)
  simp only [List.getElem?_take, List.getElem?_drop] at e
  rw [if_pos hi] at e
  have hv := List.getElem?_eq_getElem (show i < (s.par (off : Int) p).length by rw [T.par_len]; exact hi)
  rw [hv] at e
  exact ⟨_, hv, e⟩
theorem filter_one {f : Nat → Bool} {n c : Nat} (hc : c < n) (h1 : f c = true) (h2 : ∀ i, i < n → f i = true → i = c) : (List.range n).filter f = [c] := by
  induction n with
  | zero => omega
  | succ n ih =>
    rw [List.range_succ, List.filter_append]
    by_cases e : c = n
    · subst e
      have e0 : (List.range c).filter f = [] := List.filter_eq_nil_iff.mpr fun i hi hf => by
        have := List.mem_range.mp hi
        have := h2 i (by omega) hf
        omega
      rw [e0]; simp [h1]
    · rw [ih (by omega) fun i hi hf => h2 i (by omega) hf]
      have : f n = false := by
        cases hf : f n with
        | false => rfl
        | true => exact absurd (h2 n (by omega) hf) (by omega)
      simp [this]
/-- the work of a list of subtrees -/
def todo : List (Nat × T × Nat × Int) → Nat
  | [] => 0
  | x :: r => 2 * x.2.1.size + 1 + todo r
theorem todo_app : ∀ a b, todo (a ++ b) = todo a + todo b
  | [], b => by simp [todo]
  | x :: r, b => by simp [todo, todo_app r b]; omega
theorem len_todo : ∀ L, L.length ≤ todo L
  | [] => Nat.le_refl _
  | x :: r => by have := len_todo r; simp [todo]; omega

/-! ### one step up -/
theorem getD_app_l {a b : List Nat} {i : Nat} (h : i < a.length) : (a ++ b).getD i 0 = a.getD i 0 := by
  simp only [List.getD_eq_getElem?_getD, List.getElem?_append_left h]
theorem getD_app_r {a b : List Nat} {i : Nat} (h : a.length ≤ i) : (a ++ b).getD i 0 = b.getD (i - a.length) 0 := by
  simp only [List.getD_eq_getElem?_getD, List.getElem?_append_right h]
theorem getD_map1 {a : List Nat} {i : Nat} (h : i < a.length) : (a.map (· + 1)).getD i 0 = a.getD i 0 + 1 := by
  simp only [List.getD_eq_getElem?_getD, List.getElem?_map, List.getElem?_eq_getElem h]; rfl
theorem wr_l {l r : T} {i : Nat} (h : i < l.size) : (T.node l r).wr.getD i 0 = l.wr.getD i 0 + 1 := by
  simp only [T.wr]
  rw [getD_app_l (by rw [List.length_map, T.wr_len]; exact h), getD_map1 (by rw [T.wr_len]; exact h)]
theorem wr_m {l r : T} : (T.node l r).wr.getD l.size 0 = 1 := by
  simp only [T.wr]
  rw [getD_app_r (by rw [List.length_map, T.wr_len]; exact Nat.le_refl _), List.length_map, T.wr_len, Nat.sub_self]; rfl
theorem wr_r {l r : T} {j : Nat} : (T.node l r).wr.getD (l.size + 1 + j) 0 = r.wr.getD j 0 := by
  simp only [T.wr]
  rw [getD_app_r (by rw [List.length_map, T.wr_len]; omega), List.length_map, T.wr_len, show l.size + 1 + j - l.size = j + 1 by omega, List.getD_cons_succ]
theorem rc_l {l r : T} {i : Nat} (h : i < l.size) : (T.node l r).rc.getD i 0 = l.rc.getD i 0 := by
  simp only [T.rc]
  rw [getD_app_l (by rw [T.rc_len]; exact h)]
theorem rc_m {l r : T} : (T.node l r).rc.getD l.size 0 = 1 := by
  simp only [T.rc]
  rw [getD_app_r (by rw [T.rc_len]; exact Nat.le_refl _), T.rc_len, Nat.sub_self]; rfl
theorem rc_r {l r : T} {j : Nat} (h : j < r.size) : (T.node l r).rc.getD (l.size + 1 + j) 0 = r.rc.getD j 0 + 1 := by
  simp only [T.rc]
  rw [getD_app_r (by rw [T.rc_len]; omega), T.rc_len, show l.size + 1 + j - l.size = j + 1 by omega, List.getD_cons_succ, getD_map1 (by rw [T.rc_len]; exact h)]
theorem up : ∀ (s : T) (off p : Int) (i : Nat) (q : Int), (s.par off p)[i]? = some q →
    (q = p ∧ s.wr.getD i 0 = 1 ∧ s.rc.getD i 0 = 1) ∨
    ∃ j : Nat, q = off + j ∧ j < s.size ∧ j ≠ i ∧ (i < j → s.wr.getD i 0 = s.wr.getD j 0 + 1 ∧ s.rc.getD i 0 = s.rc.getD j 0) ∧ (j < i → s.wr.getD i 0 = s.wr.getD j 0 ∧ s.rc.getD i 0 = s.rc.getD j 0 + 1)
  | .nil, _, _, _, _, h => by simp [T.par] at h
  | .node l r, off, p, i, q, h => by
    simp only [T.par] at h
    have hl := T.par_len l off (off + l.size)
    by_cases h1 : i < l.size
    · rw [List.getElem?_append_left (by omega)] at h
      refine .inr ?_
      rcases up l off (off + l.size) i q h with ⟨e, e1, e2⟩ | ⟨j, e, hj, hne, c1, c2⟩
      · exact ⟨l.size, e, by simp only [T.size]; omega, by omega, fun _ => ⟨by rw [wr_l h1, wr_m, e1], by rw [rc_l h1, rc_m, e2]⟩, fun z => by omega⟩
      · exact ⟨j, e, by simp only [T.size]; omega, hne, fun z => ⟨by rw [wr_l h1, wr_l hj, (c1 z).1], by rw [rc_l h1, rc_l hj, (c1 z).2]⟩, fun z => ⟨by rw [wr_l h1, wr_l hj, (c2 z).1], by rw [rc_l h1, rc_l hj, (c2 z).2]⟩⟩
    · rw [List.getElem?_append_right (by omega), hl] at h
      by_cases h2 : i = l.size
      · subst h2
        rw [Nat.sub_self] at h
        have : p = q := by simpa using h
        exact .inl ⟨this.symm, wr_m, rc_m⟩
      · obtain ⟨k, e⟩ : ∃ k, i = l.size + 1 + k := ⟨i - l.size - 1, by omega⟩
        subst e
        rw [show l.size + 1 + k - l.size = k + 1 by omega, List.getElem?_cons_succ] at h
        have hk : k < r.size := by
          have := (List.getElem?_eq_some_iff.mp h).1
          rw [T.par_len] at this; exact this
        refine .inr ?_
        rcases up r (off + l.size + 1) (off + l.size) k q h with ⟨e, e1, e2⟩ | ⟨j, e, hj, hne, c1, c2⟩
        · exact ⟨l.size, e, by simp only [T.size]; omega, by omega, fun z => by omega, fun _ => ⟨by rw [wr_r, wr_m, e1], by rw [rc_r hk, rc_m, e2]⟩⟩
        · exact ⟨l.size + 1 + j, by rw [e]; omega, by simp only [T.size]; omega, by omega, fun z => ⟨by rw [wr_r, wr_r, (c1 (by omega)).1], by rw [rc_r hk, rc_r hj, (c1 (by omega)).2]⟩, fun z => ⟨by rw [wr_r, wr_r, (c2 (by omega)).1], by rw [rc_r hk, rc_r hj, (c2 (by omega)).2]⟩⟩
theorem wr_pos {t : T} {i : Nat} (h : i < t.size) : 1 ≤ t.wr.getD i 0 := by
  induction t generalizing i with
  | nil => simp [T.size] at h
  | node l r ihl ihr =>
    by_cases h1 : i < l.size
    · rw [wr_l h1]; omega
    · by_cases h2 : i = l.size
      · subst h2; rw [wr_m]; exact Nat.le_refl _
      · obtain ⟨k, e⟩ : ∃ k, i = l.size + 1 + k := ⟨i - l.size - 1, by omega⟩
        subst e
        rw [wr_r]; exact ihr (by simp only [T.size] at h; omega)
theorem rc_posD {t : T} {i : Nat} (h : i < t.size) : 1 ≤ t.rc.getD i 0 := by
  have := List.getElem?_eq_getElem (show i < t.rc.length by rw [T.rc_len]; exact h)
  rw [List.getD_eq_getElem?_getD, this]
  exact rc_pos t i _ this

/-! ### mirrors -/
def mirN (N : Int) (q : Int) : Int := if q = -1 then -1 else N - 1 - q
theorem mir_size : ∀ t : T, t.mir.size = t.size
  | .nil => rfl
  | .node l r => by simp [T.mir, T.size, mir_size l, mir_size r]; omega
theorem mir_par : ∀ (s : T) (N off p : Int), 0 ≤ off → ((s.par off p).reverse).map (mirN N) = s.mir.par (N - off - s.size) (mirN N p)
  | .nil, _, _, _, _ => rfl
  | .node l r, N, off, p, h => by
    simp only [T.par, T.mir, List.reverse_append, List.reverse_cons, List.map_append, List.map_cons, List.map_nil]
    rw [mir_par l N off (off + l.size) h, mir_par r N (off + l.size + 1) (off + l.size) (by omega), mir_size]
    have e1 : mirN N (off + l.size) = N - 1 - (off + l.size) := by unfold mirN; rw [if_neg (by omega)]
    rw [e1]
    have e2 : N - off - ((T.node l r).size : Int) = N - (off + l.size + 1) - r.size := by simp only [T.size]; omega
    rw [e2]
    have e3 : N - (off + ↑l.size + 1) - ↑r.size + ↑r.size = N - 1 - (off + ↑l.size) := by omega
    rw [e3, show N - 1 - (off + (l.size : Int)) + 1 = N - off - l.size by omega]
    simp
theorem mir_parOf (t : T) : t.mir.parOf = (t.parOf.reverse).map (mirN t.size) := by
  unfold T.parOf
  rw [mir_par t t.size 0 (-1) (by omega)]
  rw [show ((t.size : Int) - 0 - t.size) = 0 by omega]
  rfl
theorem mir_wr : ∀ t : T, t.mir.wr = t.rc.reverse
  | .nil => rfl
  | .node l r => by simp [T.mir, T.wr, T.rc, mir_wr l, mir_wr r]
theorem mir_rc : ∀ t : T, t.mir.rc = t.wr.reverse
  | .nil => rfl
  | .node l r => by simp [T.mir, T.wr, T.rc, mir_rc l, mir_rc r]
theorem mir_mir : ∀ t : T, t.mir.mir = t
  | .nil => rfl
  | .node l r => by simp [T.mir, mir_mir l, mir_mir r]

/-! ### parents of a joined tree -/
theorem par_below {N : Int} : ∀ (s : T) (off p : Int), 0 ≤ off → (s.par off p).map (fun q => if q = -1 then N else q) = s.par off (if p = -1 then N else p)
  | .nil, _, _, _ => rfl
  | .node l r, off, p, h => by
    simp only [T.par, List.map_append, List.map_cons]
    rw [par_below l off _ h, par_below r (off + l.size + 1) _ (by omega), if_neg (by omega : ¬ off + (l.size : Int) = -1)]
theorem par_beyond {N : Int} : ∀ (s : T) (off p : Int), 0 ≤ off → (s.par off p).map (fun q => if q = -1 then N else q + N + 1) = s.par (off + N + 1) (if p = -1 then N else p + N + 1)
  | .nil, _, _, _ => rfl
  | .node l r, off, p, h => by
    simp only [T.par, List.map_append, List.map_cons]
    rw [par_beyond l off _ h, par_beyond r (off + l.size + 1) _ (by omega), if_neg (by omega : ¬ off + (l.size : Int) = -1)]
    have e1 : off + (l.size : Int) + N + 1 = off + N + 1 + l.size := by omega
    have e2 : off + (l.size : Int) + 1 + N + 1 = off + N + 1 + l.size + 1 := by omega
    rw [e1, e2]
theorem parOf_node (s u : T) : (T.node s u).parOf = s.parOf.map (fun q => if q = -1 then (s.size : Int) else q) ++ [-1] ++ u.parOf.map (fun q => if q = -1 then (s.size : Int) else q + s.size + 1) := by
  unfold T.parOf
  rw [par_below s 0 (-1) (by omega), par_beyond u 0 (-1) (by omega)]
  simp only [T.par]
  simp
theorem parOf_root (s u : T) : (T.node s u).parOf[s.size]? = some (-1) := by
  have := sub_root (t := T.node s u) .root
  simpa using this
theorem parOf_first {s u : T} {m : Nat} (h : m < s.size) : (T.node s u).parOf[m]? ≠ some (-1) := fun e => by
  rcases par_in _ _ _ _ _ e with ⟨l, r, e1, e2, _⟩ | ⟨h1, _, _⟩
  · cases e1; omega
  · omega

/-! ### runs as lists of flushes -/
theorem stk_pair : ∀ (t : T) (off j : Nat), j + 1 ≤ t.runs → (t.stk off)[t.runs - (j + 1)]? = some (off + t.start (j + 1), off + t.start j)
  | .nil, _, _, h => by simp [T.runs] at h
  | .node l r, off, j, h => by
    by_cases e : j = r.runs
    · subst e
      have e1 : (T.node l r).runs = r.runs + 1 := by simp [T.runs]; omega
      rw [e1, Nat.sub_self, ← e1, T.start_eq, T.start_node (Nat.le_refl _), T.start_eq]
      rfl
    · have h1 : j + 1 ≤ r.runs := by simp [T.runs] at h; omega
      have e1 : (T.node l r).runs - (j + 1) = (r.runs - (j + 1)) + 1 := by simp [T.runs]; omega
      rw [e1, T.start_node h1, T.start_node (by omega)]
      simp only [T.stk, List.getElem?_cons_succ]
      rw [stk_pair r (off + l.size + 1) j h1]
      congr 2 <;> omega
theorem start_anti : ∀ (t : T) (j : Nat), j + 1 ≤ t.runs → t.start (j + 1) < t.start j
  | .nil, _, h => by simp [T.runs] at h
  | .node l r, j, h => by
    by_cases e : j = r.runs
    · subst e
      have e1 : (T.node l r).runs = r.runs + 1 := by simp [T.runs]; omega
      rw [← e1, T.start_eq, T.start_node (Nat.le_refl _), T.start_eq]
      omega
    · have h1 : j + 1 ≤ r.runs := by simp [T.runs] at h; omega
      rw [T.start_node h1, T.start_node (by omega)]
      have := start_anti r j h1
      omega
/-- the flushes of [a, b) -/
def seg (a b : Nat) : List Nat := List.range' a (b - a)
theorem seg_app {a b c : Nat} (h1 : a ≤ b) (h2 : b ≤ c) : seg a b ++ seg b c = seg a c := by
  unfold seg
  have := List.range'_append_1 (s := a) (m := b - a) (n := c - b)
  rw [show a + (b - a) = b by omega, show b - a + (c - b) = c - a by omega] at this
  exact this
theorem seg_one (a : Nat) : seg a (a + 1) = [a] := by
  unfold seg
  rw [show a + 1 - a = 1 by omega]; rfl
theorem seg_nil (a : Nat) : seg a a = [] := by unfold seg; rw [Nat.sub_self]; rfl
theorem seg_len (a b : Nat) : (seg a b).length = b - a := by unfold seg; rw [List.length_range']
theorem seg_at {a b k : Nat} (h : a + k < b) : (seg a b)[k]? = some (a + k) := by
  unfold seg
  rw [List.getElem?_range' (by omega)]
  simp
theorem stk_take_succ {t : T} {j : Nat} (off : Nat) (h : j + 1 ≤ t.runs) : (t.stk off).take (t.runs - j) = (t.stk off).take (t.runs - (j + 1)) ++ [(off + t.start (j + 1), off + t.start j)] := by
  rw [show t.runs - j = (t.runs - (j + 1)) + 1 by omega, List.take_add_one, stk_pair t off j h]; rfl
/-- adjacent, from off on -/
theorem stk_starts : ∀ (t : T) (off : Nat), (t.stk off).map (·.1) = (off :: (t.stk off).map (·.2)).dropLast
  | .nil, _ => rfl
  | .node l r, off => by
    have ih := stk_starts r (off + l.size + 1)
    simp only [T.stk, List.map_cons]
    rw [ih]; rfl
theorem stk_stops : ∀ (t : T) (off : Nat), (off :: (t.stk off).map (·.2)).getLast? = some (off + t.size)
  | .nil, off => by simp [T.stk, T.size]
  | .node l r, off => by
    have ih := stk_stops r (off + l.size + 1)
    simp only [T.stk, List.map_cons, T.size]
    rw [List.getLast?_cons_cons, ih]
    congr 1; omega
theorem stk_lt : ∀ (t : T) (off : Nat) (p : Nat × Nat), p ∈ t.stk off → off ≤ p.1 ∧ p.1 < p.2 ∧ p.2 ≤ off + t.size
  | .nil, _, _, h => by simp [T.stk] at h
  | .node l r, off, p, h => by
    simp only [T.stk] at h
    rcases List.mem_cons.mp h with rfl | h
    · simp only [T.size]; omega
    · have := stk_lt r _ p h
      simp only [T.size]; omega
end MB

set_option maxHeartbeats 4000000
namespace MB
open PySem PySem.Spec PyProof.Rows L2

/-! ### great powers -/
def CPowW (i j : Int) : Prop := 0 ≤ j ∧ (Builtin.Int.intBits i : Int) * j ≤ 2 ^ 27
theorem op_powW {X : Cx} : OpR X (binaryOp .Pow) (rI CPowW fun i j => .int (i ^ j.toNat)) := opI fun _ _ _ _ _ _ _ hc q => pow_int hc.1 hc.2 q

/-! ### xs[i] op= e -/
theorem get_list {X : Cx} : PGet X (rIxL X.K) := by
  intro pins s σ H x y v u Q I rx ry h
  obtain ⟨p, xs, i, z, rfl, rfl, hq, he, q⟩ := h
  cases rx
  obtain ⟨t, rfl⟩ := ry
  obtain ⟨its, r, pl, hz⟩ := I.list hq
  obtain ⟨j, h1, h2, h3, h4, h5⟩ := atI_get he
  obtain ⟨w, ew, rw'⟩ := r.get h2
  have hl := r.length
  have hn := line63
  have fin : EP X pins σ Q w s := ⟨z, H, I, rw', q⟩
  by_cases h0 : 0 ≤ i
  · have hj : i.toNat = j := by
      rw [seqIndex_of h0 h5] at h1
      exact Option.some.inj h1
    exact getItem_listL pl.isList h0 (by omega) (by rw [hj]; exact ew) fin
  · have hj : (i + (its.toArray.size : Int)).toNat = j := by
      rw [seqIndex_neg (by omega) h4] at h1
      rw [List.size_toArray, ← hl]
      exact Option.some.inj h1
    exact wpAny_getItem_list_neg pl.isList (by omega) (by rw [List.size_toArray] <;> omega) (by omega) (by rw [hj]; simpa using ew) fin

/-! ### sum of a tuple of ints -/
theorem ints_at : ∀ {ns : List Int} {its : List Value}, Vals (ns.map V.int) its → ∀ (i : Nat) (v : Value), its[i]? = some v → ∃ t, v = .int (ns.getD i 0) t
  | [], _, .nil, i, v, h => by simp at h
  | n :: ns, u :: us, .cons r rr, 0, v, h => by
    obtain ⟨t, rfl⟩ := r
    simp at h
    exact ⟨t, by simp [h]⟩
  | n :: ns, u :: us, .cons r rr, i + 1, v, h => by
    have := ints_at rr i v (by simpa using h)
    simpa using this
theorem preSum_getD (ns : List Int) : ∀ k, k ≤ ns.length → preSum (fun i => ns.getD i 0) k = (ns.take k).sum
  | 0, _ => by simp [preSum]
  | k + 1, h => by
    have e : ns[k]? = some (ns.getD k 0) := by
      rw [List.getElem?_eq_getElem (by omega), List.getD_eq_getElem?_getD, List.getElem?_eq_getElem (by omega)]
      rfl
    rw [preSum, preSum_getD ns k (by omega), L2.sum_take e]
def rSumT (K : PySem.W.Frag) : List V → Hp → VK → Prop := fun xs H Q => ∃ (a : Addr) (ns : List Int), xs = [V.ref a] ∧ SqT K H a (ns.map V.int) ∧ Q (.int ns.sum) H
theorem cr_sumT {X : Cx} (hc : X.calm = true) : CallR X (.builtin "sum") (rSumT X.K) := by
  intro pins s σ H vs us Q I r h
  obtain ⟨a, ns, rfl, hs, q⟩ := h
  obtain ⟨its, rv, hl, _⟩ := I.tuple hs
  rw [Vals.ref1 r]
  have hT : s.heap.IsTuple a its.toArray := hl
  have hlt : a < s.heap.objs.size := by obtain ⟨_, e, _⟩ := hl; exact Heap.lt_size e
  refine PySem.call_sum_walkG (wpAny_pyIter_tuple hT ?_)
  refine ⟨s.heap.objs.size, [s.heap.objs.size, a], [s.heap.objs.size], its.toArray.size, _, _, fun i => ns.getD i 0, rfl, Walks.tuple (A := X.A.in1) (I.ok.hd hc) _ a (Nat.ne_of_lt hlt) its.toArray, ⟨⟨_, Heap.get?_push_size _ rfl, rfl, rfl⟩, hT.at fun o e => Heap.get?_push_of_some _ e⟩, fun b hb => ?_, fun i v hv => ints_at rv i v (by simpa using hv), fun h' tk t' hk => ?_⟩
  · show b < (s.heap.push _).objs.size
    rw [Heap.size_push]
    have e : b = s.heap.objs.size ∨ b = a := by simpa using hb
    rcases e with e | e
    · rw [e]; exact Nat.lt_succ_self _
    · rw [e]; exact Nat.lt_succ_of_lt hlt
  · have el : its.toArray.size = ns.length := by rw [List.size_toArray, ← rv.length, List.length_map]
    rw [el, preSum_getD ns _ (Nat.le_refl _), List.take_length]
    refine ⟨.int ns.sum, H, I.kept fun b o e => hk b o ?_ (Heap.get?_push_of_some _ e), ⟨_, rfl⟩, q⟩
    have := Heap.lt_size e
    simp only [List.mem_singleton]
    exact Nat.ne_of_lt this

/-! ### enumerate(tuple) -/
set_option maxHeartbeats 4000000 in
theorem meets_enumerate_newT (l : Addr) (items : Array Value) (n : Nat) (dct : Option Addr) (sl : Array (Option Value)) :
    Meets (Builtin.«enumerate.__new__» ⟨[.type "enumerate", .ref l], []⟩) (fun _ R s => s.heap.get? l = some { cls := .type "tuple", dict := dct, data := .seq items n, slots := sl } ∧
      R (.ok (.ret (.ref (s.heap.push { cls := .type "tuple_iterator", data := .fields #[.ref l, .int 0 0] }).objs.size)))
        { s with heap := (s.heap.push { cls := .type "tuple_iterator", data := .fields #[.ref l, .int 0 0] }).push { cls := .type "enumerate", data := .fields #[.none, .bool false, .ref s.heap.objs.size, rawInt 0, .none, .none] } }) :=
  .of_wp fun prog w A R s h => by
    obtain ⟨hp, g, d, tk, os⟩ := s; obtain ⟨hl, h⟩ := h
    have hsub := sub_enumerate
    have hL : Heap.IsTuple (Shared.heap ⟨hp, g, d, tk, os⟩) l items := ⟨_, hl, rfl, n, rfl⟩
    wp_walk using AutoSeq1.wpAny_loadPart' hl
    refine wpAny_stack_any fun st => wpAny_pure ?_
    split
    · rename_i c _ _ _ _ _
      cases (c == Value.type "enumerate")
      · wp_walk using AutoSeq1.wpAny_loadPart' hl, wpAny_pyIter_tuple hL
        exact ⟨_, rfl, h⟩
      · wp_walk using AutoSeq1.wpAny_loadPart' hl, wpAny_pyIter_tuple hL
        exact ⟨_, rfl, h⟩
    · wp_walk using AutoSeq1.wpAny_loadPart' hl, wpAny_pyIter_tuple hL
      exact ⟨_, rfl, h⟩
section
variable {prog : Program} {w : World} {A : Around} {E : Value → Shared → Prop} {s : Shared}
theorem call_enumerate_tuple {l : Addr} {items : Array Value} {Q : Value → Shared → Prop} (hL : s.heap.IsTuple l items)
    (h : ∀ h', IsEnum h' (s.heap.objs.size + 1) s.heap.objs.size 0 .none → h'.IsTupleIter s.heap.objs.size l 0 → h'.objs.size = s.heap.objs.size + 2 →
      (∀ b o, s.heap.get? b = some o → h'.get? b = some o) → Q (.ref (s.heap.objs.size + 1)) { s with heap := h' }) :
    wpAny (model prog w) A (call (.type "enumerate") [.ref l]) Q E s := by
  obtain ⟨⟨c, dct, dt, sl⟩, hl, hc, n, hd⟩ := hL
  replace hc : c = .type "tuple" := hc
  replace hd : dt = .seq items n := hd
  subst hc hd
  refine callType_new F.called_enumerate (by decide) (F.typeCall_enumerate_1 _) (F.newCall_enumerate_1 _) (fun obj => F.args_object_init_2 obj _) F.entry_enumerate_new
    (meets_enumerate_newT l items n dct sl) ⟨hl, ?_⟩
  have hz : (s.heap.push { cls := .type "tuple_iterator", data := .fields #[.ref l, .int 0 0] }).objs.size = s.heap.objs.size + 1 := Heap.size_push ..
  show _ ∧ _
  rw [hz]
  have he : IsEnum ((s.heap.push { cls := .type "tuple_iterator", data := .fields #[.ref l, .int 0 0] }).push
      { cls := .type "enumerate", data := .fields #[.none, .bool false, .ref s.heap.objs.size, rawInt 0, .none, .none] }) (s.heap.objs.size + 1) s.heap.objs.size 0 .none := by
    have := Heap.get?_push_size (s.heap.push { cls := .type "tuple_iterator", data := .fields #[.ref l, .int 0 0] })
      (o := { cls := .type "enumerate", data := .fields #[.none, .bool false, .ref s.heap.objs.size, rawInt 0, .none, .none] }) rfl
    rw [hz] at this; exact this
  refine ⟨⟨_, he, rfl⟩, h _ he ⟨_, Heap.get?_push_of_some _ (Heap.get?_push_size _ rfl), rfl, rfl⟩ (by rw [Heap.size_push, hz]) fun b o x => Heap.get?_push_of_some _ (Heap.get?_push_of_some _ x)⟩
end
def IteT (K : PySem.W.Frag) (a : Addr) : It :=
  ⟨fun i H => ∃ (xs : List V) (x : V), SqT K H a xs ∧ xs[i]? = some x, fun i H v H' => ∃ T x, v = .ref T ∧ H T = none ∧ H' = upd H T (.tup [.int (i : Nat), x]) ∧ ∀ xs, SqT K H a xs → xs[i]? = some x, fun i H => ∃ xs : List V, SqT K H a xs ∧ xs.length = i⟩
theorem tup_ne {h : Heap} {a it : Addr} {items : Array Value} {i : Nat} (h1 : h.IsTuple a items) (h2 : h.IsTupleIter it a i) : a ≠ it := fun e => by
  obtain ⟨o, ho, hc, n, hd⟩ := h1
  obtain ⟨o', ho', hc', hd'⟩ := h2
  rw [e] at ho
  rw [ho] at ho'
  cases ho'
  rw [hd] at hd'
  cases hd'
theorem turn_enumT {P : Program} {w : World} {K : PySem.W.Frag} {elts : List Expr} {kk : Nat} {tpos : Pos} (a e it : Addr) (hae : a ≠ e) :
    Turn P w K (.Tuple elts kk tpos) (IteT K a) [e, it] e (fun i h => (∃ old, IsEnum h e it ((i : Nat) : Int) old) ∧ h.IsTupleIter it a i ∧ e ≠ it) where
  mem := by simp
  obj := fun i h st b hb => by
    obtain ⟨⟨old, he⟩, ⟨o, ho, hc, hd⟩, _⟩ := st
    have e' : b = e ∨ b = it := by simpa using hb
    rcases e' with z | z
    · rw [z]; exact ⟨_, he, fun v q => nomatch q⟩
    · rw [z]; exact ⟨o, ho, fun v q => by rw [hd] at q; cases q⟩
  keep := fun i h h' st k => let ⟨⟨old, he⟩, hi, hne⟩ := st; ⟨⟨old, k e (by simp) _ he⟩, hi.at fun o q => k it (by simp) o q, hne⟩
  item := by
    intro X hP hw hK hc i pins s σ H E I hf st hg
    subst hP hw hK
    obtain ⟨⟨old, he⟩, hit, hne⟩ := st
    obtain ⟨xs, x, hq, hx⟩ := hg
    obtain ⟨its, rv, p, hz⟩ := I.tuple hq
    have p : s.heap.IsTuple a its.toArray := p
    have hat : a ≠ it := tup_ne p hit
    have hel : e < s.heap.objs.size := Heap.lt_size he
    have hil : it < s.heap.objs.size := by obtain ⟨_, q, _⟩ := hit; exact Heap.lt_size q
    have hlen : i < its.toArray.size := by
      rw [List.size_toArray, ← rv.length]; exact (List.getElem?_eq_some_iff.mp hx).1
    refine wpAny_pyNext_enum_itemD (Draws.tuple (prog := X.prog) (w := X.w) (A := X.A.in1) (I.ok.hd hc) it a hat its.toArray) he ⟨hit, p⟩ hlen hne (by simp; exact ⟨hne, fun z => hae z.symm⟩) fun u h' tk hu ho hit' hT hsz hk => ?_
    obtain ⟨u', hu', ru'⟩ := rv.get hx
    have eu : u = u' := by
      have h1 : its[i]? = some u := by simpa using hu
      rw [h1] at hu'; exact Option.some.inj hu'
    subst eu
    refine ⟨_, rfl, wpAny_letOwnedTupleGo_enum (s := { s with heap := h', toks := tk + 1 }) ho fun h'' he' sb => ?_⟩
    have hT2 : h''.get? s.heap.objs.size = some { cls := .type "tuple", data := .seq #[.int i tk, u] } := (sb.2 _ (Nat.ne_of_gt hel)).trans hT
    have new : ObjOk X.prog X.w (upd H s.heap.objs.size (.tup [.int (i : Nat), x])) h'' s.heap.objs.size (.tup [.int (i : Nat), x]) :=
      ⟨by show 2 ≤ sizeLine; decide, [.int i tk, u], .cons ⟨_, rfl⟩ (.cons ru' .nil), ⟨_, hT2, rfl, _, rfl⟩⟩
    have I1 : Inv X pins σ (upd H s.heap.objs.size (.tup [.int (i : Nat), x])) { s with heap := h'', toks := tk + 1 } :=
      I.turnedNew (ch := [e, it]) (fun b ob hb q => (sb.2 b (fun z => hb (by simp [z]))).trans (hk b ob (fun z => hb (by simp [z])) (fun z => hb (by simp [z])) q)) hf (Nat.le_refl _) new
    refine ⟨.ref s.heap.objs.size, _, I1, rfl, ⟨_, x, rfl, I.hok.fresh (Nat.le_refl _), rfl, fun ys hy => by rw [I.tuple_inj hy hq]; exact hx⟩, ⟨⟨u, ?_⟩, hit'.1.at fun o q => (sb.2 it (Ne.symm hne)).trans q, hne⟩, fun b hb => ?_⟩
    · have e1 : ((i + 1 : Nat) : Int) = (i : Int) + 1 := by omega
      rw [e1]; exact he'
    · have hb' : b < s.heap.objs.size := by
        have e' : b = e ∨ b = it := by simpa using hb
        rcases e' with z | z
        · rw [z]; exact hel
        · rw [z]; exact hil
      rw [upd_ne (Nat.ne_of_lt hb')]
      exact (hf b hb).1
  done := by
    intro X hP hw hK hc i pins s σ H E I hf st hg
    subst hP hw hK
    obtain ⟨⟨old, he⟩, hit, hne⟩ := st
    obtain ⟨xs, hq, hx⟩ := hg
    obtain ⟨its, rv, p, hz⟩ := I.tuple hq
    have p : s.heap.IsTuple a its.toArray := p
    have hat : a ≠ it := tup_ne p hit
    obtain ⟨f0, f1, f2, f3, f4, f5⟩ := hf it (by simp)
    have hlen : its.toArray.size = i := by rw [List.size_toArray, ← rv.length, hx]
    refine wpAny_pyNext_enum_endD (Draws.tuple (prog := X.prog) (w := X.w) (A := X.A.in1) (I.ok.hd hc) it a hat its.toArray) he ?_ fun h' eb => ⟨rfl, I.turned (t' := s.toks) (fun b o hb q => eb b o hb q) f0 f1 f3 f4 f5⟩
    rw [hlen]
    exact ⟨hit, p⟩
  self := fun A i s Q E st h => let ⟨⟨_, he⟩, _⟩ := st; wpAny_pyIter_enum he h
def iEnumT (K : PySem.W.Frag) (ta : TA) : TI := fun σ H R => ta σ H fun vs H1 => ∃ a xs, vs = [.ref a] ∧ SqT K H1 a xs ∧ R (IteT K a) H1
theorem pi_enumT {X : Cx} {e : Expr} {ta : TA} {p pos tpos : Pos} {elts : List Expr} {kk : Nat} (hg : Gl X "enumerate") (hm : X.mg "enumerate" = none) (ha : PA X [e] ta) (hs : starEach [e] X.env = [(false, eval e X.env)] := by rfl) :
    PI X (.Tuple elts kk tpos) (.Call (.Name "enumerate" p) [e] [] pos) (iEnumT X.K ta) := by
  refine ⟨fun pins s σ H R I h => ?_⟩
  refine Call_ (ld_blt I hg hm boot_enumerate (PyProof.Rows.callWith_type1 (thn (ha.run pos pins s σ H _ I h) fun us s1 ⟨vs, H1, I1, r1, q1⟩ => ?_) hs rfl))
  obtain ⟨a, xs, ex, hq, q⟩ := q1
  subst ex
  cases r1 with
  | cons r rr =>
    cases rr
    cases r
    obtain ⟨its, rv, p', hz⟩ := I1.tuple hq
    have hlt : a < s1.heap.objs.size := by obtain ⟨_, e, _⟩ := p'; exact Heap.lt_size e
    refine call_enumerate_tuple p' fun h' he hit hsz hk => wpAny_pyIter_enum he ?_
    have I2 : Inv X pins σ H1 { s1 with heap := h' } := I1.kept (t' := s1.toks) hk
    refine ⟨s1.heap.objs.size + 1, [s1.heap.objs.size + 1, s1.heap.objs.size], _, _, H1, rfl, I2, turn_enumT a (s1.heap.objs.size + 1) s1.heap.objs.size (Nat.ne_of_lt (Nat.lt_succ_of_lt hlt)), ⟨⟨.none, he⟩, hit, Nat.succ_ne_self _⟩, fun b hb => ?_, q⟩
    have e' : b = s1.heap.objs.size + 1 ∨ b = s1.heap.objs.size := by simpa using hb
    have hle : s1.heap.objs.size ≤ b := by
      rcases e' with z | z
      · rw [z]; exact Nat.le_add_right _ _
      · rw [z]; exact Nat.le_refl _
    exact I1.fpOk hle (I1.hok.fresh hle)
theorem walk_enumT {K : PySem.W.Frag} {a : Addr} {xs : List V} : Walk (IteT K a) xs.length (fun H => SqT K H a xs) (YPair (fun i => some (.int (i : Nat))) (fun i => xs[i]?)) := by
  refine ⟨fun i H hi hG => ⟨xs, xs[i], hG, List.getElem?_eq_getElem hi⟩, fun H hG => ⟨xs, hG, rfl⟩, fun i H x H' hi hG y => ?_⟩
  obtain ⟨T, x, e1, e2, e3, e4⟩ := y
  exact ⟨T, _, x, e1, e2, e3, rfl, e4 xs hG⟩

/-! ### tuple.index of an int -/
theorem flat_ints (ns : List Int) : (ns.map V.int).all flatV = true := by
  rw [List.all_map]
  exact List.all_eq_true.mpr fun _ _ => rfl
theorem mt_tindex {X : Cx} : MtR X "tuple.index" (fun x xs H Q => ∃ p, ∃ ys : List Int, ∃ z j, x = .ref p ∧ xs = [.int z] ∧ SqT X.K H p (ys.map V.int) ∧ ys[j]? = some z ∧ (∀ m, m < j → ys[m]? ≠ some z) ∧ Q (.int (j : Nat)) H) := by
  intro pins s σ H x xs v us Q I rx rs h
  obtain ⟨p, ys, z, j, rfl, rfl, hq, hy, hno, q⟩ := h
  cases rx
  obtain ⟨u, rfl, t, rfl⟩ := vals1 rs
  obtain ⟨its, r, pl, hz⟩ := I.tuple hq
  obtain ⟨⟨cls, dd, dt, sl⟩, ho, hc, n, hd⟩ := pl
  simp only at hc hd
  subst hc
  subst hd
  have hl : its.toArray.size = ys.length := by rw [List.size_toArray, ← r.length, List.length_map]
  have hj : j < its.toArray.size := by rw [hl]; exact (List.getElem?_eq_some_iff.mp hy).1
  have at' : ∀ (m : Nat) (hm : m < its.toArray.size), ∃ y t', ys[m]? = some y ∧ its.toArray[m] = Value.int y t' := fun m hm => by
    have hm' : m < ys.length := by rw [← hl]; exact hm
    obtain ⟨w, hw, t', hw'⟩ := r.get (i := m) (x := .int ys[m]) (by simp [hm'])
    refine ⟨ys[m], t', List.getElem?_eq_getElem hm', ?_⟩
    have e := (List.getElem?_eq_some_iff.mp hw).2
    rw [← hw', ← e]
    simp
  refine call_meets PySem.F.slot_tuple_index ⟨_, ho, rfl⟩ PySem.F.entry_tuple_index (PySem.F.args_tuple_index_2 _ _) (TI.tuple_indexAt p its.toArray n dd sl (.int z t) (eqU (.int z)) j hj ?_ ?_)
    ⟨ho, fun w hw => mem_eqAt (x := .int z) ⟨t, rfl⟩ rfl r (flat_ints ys) w (by simpa using hw), ⟨.int (j : Nat), H, I.tok _, ⟨_, rfl⟩, q⟩⟩
  · obtain ⟨y, t', h1, h2⟩ := at' j hj
    rw [hy] at h1
    cases h1
    rw [h2]
    show (z == z) = true
    exact beq_self_eq_true z
  · intro m hm hmj
    obtain ⟨y, t', h1, h2⟩ := at' m hm
    rw [h2]
    show (y == z) = false
    exact beq_eq_false_iff_ne.mpr fun e => hno m hmj (e ▸ h1)

/-! ### rules by the written part K itself (for a comprehension's block) -/
def rLen (K : PySem.W.Frag) : List V → Hp → VK → Prop := fun xs H Q => ∃ p ys, xs = [.ref p] ∧ (SqL K H p ys ∨ SqT K H p ys) ∧ Q (.int ys.length) H
def rTupOf (K : PySem.W.Frag) : List V → Hp → VK → Prop := fun xs H Q => ∃ p ys, xs = [.ref p] ∧ ((SqL K H p ys ∧ ∀ l, H l = none → Q (.ref l) (upd H l (.tup ys))) ∨ (SqT K H p ys ∧ Q (.ref p) H))
def rListOf (K : PySem.W.Frag) : List V → Hp → VK → Prop := fun xs H Q => ∃ p ys, xs = [.ref p] ∧ (SqL K H p ys ∨ SqT K H p ys) ∧ ∀ l, H l = none → Q (.ref l) (upd H l (.lst ys))
section
variable {X : Cx} {K : PySem.W.Frag}
theorem k_len (hK : X.K = K) : CallR X (.builtin "len") (rLen K) := by subst hK; exact call_len_seq
theorem k_tupOf (hK : X.K = K) : CallR X (.type "tuple") (rTupOf K) := by subst hK; exact call_tuple_of
theorem k_listOf (hK : X.K = K) : CallR X (.type "list") (rListOf K) := by subst hK; exact call_list_of
theorem k_isi (hK : X.K = K) : CallR X (.builtin "isinstance") (rIsi K) := by subst hK; exact call_isi
theorem k_ixT (hK : X.K = K) : IxR X (rIxT K) := by subst hK; exact ix_tup
theorem k_ixL (hK : X.K = K) : IxR X (rIxL K) := by subst hK; exact ix_list
theorem k_slT (hK : X.K = K) : SlR X (rSlA K) := by subst hK; exact sl_tupA
theorem k_catT (hK : X.K = K) : OpR X (binaryOp .Add) (rCatA K) := by subst hK; exact op_catA
theorem k_sumT (hK : X.K = K) (hc : X.calm = true) : CallR X (.builtin "sum") (rSumT K) := by subst hK; exact cr_sumT hc
end

/-! ### a statement, then the rest, with a word between them -/
def tCut (t u : TS) : TS := fun D σ H => ∃ Mid : L2.St → Hp → Prop, t { D with nx := Mid } σ H ∧ ∀ σ' H', Mid σ' H' → u D σ' H'
theorem pss_cut {X : Cx} {st : Stmt} {rest : List Stmt} {t u : TS} (h1 : PS X st t) (h2 : PSs X rest u) : PSs X (st :: rest) (tCut t u) := by
  refine ⟨fun pins s σ H D I h => ?_⟩
  obtain ⟨Mid, hm, hu⟩ := h
  refine wpAny_execs_cons (thn (h1.run pins s σ H { D with nx := Mid } I hm) fun f s1 q => ?_)
  cases f with
  | next =>
    obtain ⟨σ', H', I', q⟩ := q
    exact h2.run pins s1 σ' H' D I' (hu σ' H' q)
  | ret v => exact q
  | brk => exact q
  | cont => exact q

/-! ### a tuple that is known to be plain; its method index -/
def rTupOfZ (K : PySem.W.Frag) : List V → Hp → VK → Prop := fun xs H Q => ∃ p ys, xs = [.ref p] ∧ SqL K H p ys ∧ ∀ l o, H l = none → o.dict = none → Q (.ref l) (upd H l (.frz o (.tup ys)))
theorem k_tupOfZ {X : Cx} {K : PySem.W.Frag} (hK : X.K = K) : CallR X (.type "tuple") (rTupOfZ K) := by
  subst hK
  intro pins s σ H xs us Q I r h
  obtain ⟨p, ys, rfl, hq, q⟩ := h
  obtain ⟨u, rfl, rx⟩ := vals1 r
  cases rx
  obtain ⟨its, r', pl, hz⟩ := I.list hq
  have hlen := r'.length
  refine call_tuple_list pl.isList (fun h' kp => ?_) (by simp only [List.size_toArray] <;> omega)
  have I1 : Inv X pins σ H { s with heap := h' } := I.kept (t' := s.toks) kp
  have I2 : Inv X pins σ (upd H h'.objs.size (.frz { cls := .type "tuple", data := .seq its.toArray } (.tup ys))) { s with heap := h'.push { cls := .type "tuple", data := .seq its.toArray } } :=
    I1.laid (t' := s.toks) (fun b o e => Heap.get?_push_of_some _ e) (Nat.le_refl _) (show ObjOk X.prog X.w _ _ _ (.frz _ (.tup ys)) from ⟨Heap.get?_push_size _ rfl, hz, its, r', IsTup.new _ _⟩)
  exact ⟨.ref h'.objs.size, _, I2, rfl, q _ _ (I1.hok.fresh (Nat.le_refl _)) rfl⟩
def tTM (r : V → List V → Hp → VK → Prop) (to : TE) (t : TA) : TE := fun σ H Q => to σ H fun x H1 => (∃ a ob xs, x = .ref a ∧ H1 a = some (.frz ob (.tup xs)) ∧ ob.dict = none) ∧ t σ H1 fun xs H2 => r x xs H2 Q
theorem pe_tm {X : Cx} {o e : Expr} {es : List Expr} {to : TE} {t : TA} {name : Str} {apos cpos : Pos} {id : String} {r : V → List V → Hp → VK → Prop} (slot : Slot "tuple" name id) (hty : typeOf (.builtin id) = pure (.type "method_descriptor")) (hm : MtR X id r) (ho : PE X o to) (ha : PA X (e :: es) t)
    (hbase : attributeBase o name X.env (eval o X.env) = eval o X.env := by rfl)
    (hfew : ((backTo cpos (starEach (e :: es) X.env)).all (fun x => !x.1) && (backToKw cpos (keywordEach [] X.env)).all (fun x => x.1.isSome)
      && decide ((e :: es).length + ([] : List Keyword).length + (if ([] : List Keyword).isEmpty then 0 else 1) < 30)) = true := by rfl)
    (hline : (apos.endLine == cpos.line) = true := by rfl) (hs : starEach (e :: es) X.env = (false, eval e X.env) :: starEach es X.env := by rfl) (hplain : (backTo cpos (starEach es X.env)).any (·.1) = false := by rfl) :
    PE X (.Call (.Attribute o name apos) (e :: es) [] cpos) (tTM r to t) := by
  refine ⟨fun pins s σ H Q I h => ?_⟩
  refine wpAny_Call_method_late hbase hfew hline rfl (thn (ho.run pins s σ H _ I h) fun v s1 ⟨x, H1, I1, r1, ty, q1⟩ => ?_)
  obtain ⟨a, ob, xs, rfl, hf, hd⟩ := ty
  cases r1
  obtain ⟨hg, hz, its, rv, o', ho', hc, _⟩ := (show ObjOk X.prog X.w H1 s1.heap a (.frz ob (.tup xs)) from I1.hok a _ hf)
  have hc' : ob.cls = .type "tuple" := by rw [hg] at ho'; cases ho'; exact hc
  refine ⟨"tuple", id, PySem.F.plainAttrs_tuple, slot, hty, ⟨ob, hg, hc'⟩, fun b e => by cases e; exact ⟨ob, hg, hd⟩, ?_⟩
  have hA := ha.run cpos pins s1 σ H1 _ I1 q1
  rw [hs] at hA ⊢
  refine Calls.callWith_builtin (by show (false || (backTo cpos (starEach es X.env)).any (·.1)) = false; rw [hplain] <;> rfl) (Calls.evalArgs_plain ?_)
  exact thn hA fun us s2 ⟨vs, H2, I2, r2, q2⟩ => hm pins s2 σ H2 (.ref a) vs (.ref a) us Q I2 rfl r2 q2

/-! ### places in the text -/
def xAsg : Stmt → Expr
  | .Assign _ e _ => e
  | _ => .Constant .none 0 ⟨0, 0, 0, 0⟩
def xArg (i : Nat) : Expr → Expr
  | .Call _ as _ _ => as.getD i (.Constant .none 0 ⟨0, 0, 0, 0⟩)
  | _ => .Constant .none 0 ⟨0, 0, 0, 0⟩
def xLcSc : Expr → Scope
  | .ListComp _ _ sc _ => sc
  | _ => { kind := .function, names := [], isGenerator := false, isCoroutine := false }
/-! ### readings are monotone -/
theorem mono_pair {K : PySem.W.Frag} {n i j : Nat} (x : V) (σ' : L2.St) (H' : Hp) (Q Q' : L2.St → Hp → Prop) (h : ∀ a b, Q a b → Q' a b) (e : gTup K n (gCons (gName i) (gCons (gName j) gNil)) x σ' H' Q) : gTup K n (gCons (gName i) (gCons (gName j) gNil)) x σ' H' Q' := by
  obtain ⟨a, xs, e1, e2, e3, v, r, e4, v', r', e5, e6, q⟩ := e
  exact ⟨a, xs, e1, e2, e3, v, r, e4, v', r', e5, e6, h _ _ q⟩

section
variable {X : Cx} {K : PySem.W.Frag}
theorem k_piL {tg l : Expr} {tl : TE} (hK : X.K = K) (hl : PE X l tl) : PI X tg l (iList K tl) := by subst hK; exact pi_list hl
theorem k_piT {tg l : Expr} {tl : TE} (hK : X.K = K) (hl : PE X l tl) : PI X tg l (iTup K tl) := by subst hK; exact pi_tup hl
theorem k_pgT2 {x y : Str} {px py : Pos} {k : Nat} {pos : Pos} {t1 t2 : TG} (hK : X.K = K) (hc : X.calm = true) (h1 : PG X (.Name x px) t1) (h2 : PG X (.Name y py) t2) : PG X (.Tuple [.Name x px, .Name y py] k pos) (gTup K 2 (gCons t1 (gCons t2 gNil))) := by
  subst hK
  exact pg_tup hc (pgs_cons h1 (pgs_cons h2 pgs_nil))
end
end MB

set_option maxHeartbeats 4000000
namespace MB
open PySem PySem.Spec PyProof.Rows L2

/-! ### heaps -/
theorem same_upd {H : Hp} {p : Addr} {o : HO} (h : H p = none) : Same H (upd H p o) := fun b x e => by
  rw [upd_ne (ne_of_none e h)]
  exact e
/-- an object that was not tracked may change -/
theorem Same.mut {H H' : Hp} {p : Addr} {o : HO} (s : Same H H') (h : H p = none) : Same H (upd H' p o) := fun b x e => by
  rw [upd_ne (ne_of_none e h)]
  exact s _ _ e
theorem Same.tup {K : PySem.W.Frag} {H H' : Hp} {a : Addr} {xs : List V} (e : Same H H') (h : SqT K H a xs) : SqT K H' a xs := by
  rcases h with (h | ⟨o, h⟩) | h
  · exact .inl (.inl (e _ _ h))
  · exact .inl (.inr ⟨o, e _ _ h⟩)
  · exact .inr h
theorem Same.tupF {K : PySem.W.Frag} {H H' : Hp} {a : Addr} {o : Obj} {xs : List V} (e : Same H H') (h : H a = some (.frz o (.tup xs))) : SqT K H' a xs := .inl (.inr ⟨o, e _ _ h⟩)
theorem Dp.same {K : PySem.W.Frag} {H H' : Hp} (e : Same H H') : ∀ {v : V} {d : PyData}, Dp K H v d → Dp K H' v d := by
  intro v d h
  refine Dp.rec (motive_1 := fun v d _ => Dp K H' v d) (motive_2 := fun vs ds _ => DpAll K H' vs ds) ?_ ?_ ?_ ?_ ?_ ?_ ?_ ?_ h
  · exact .non
  · intro b; exact .bl b
  · intro i; exact .int i
  · intro x; exact .str x
  · intro a xs ds hs _ ih; exact .lst (e.seq hs) ih
  · intro a xs ds hs _ ih; exact .tup (Same.tup e hs) ih
  · exact .nil
  · intro v vs d ds _ _ h1 h2; exact .cons h1 h2
theorem DpAll.get {K : PySem.W.Frag} {H : Hp} : ∀ {vs : List V} {ds : List PyData}, DpAll K H vs ds → ∀ {i : Nat} {d : PyData}, ds[i]? = some d → ∃ v, vs[i]? = some v ∧ Dp K H v d
  | _, _, .nil, i, d, h => by simp at h
  | _, _, .cons a b, 0, d, h => by
    simp at h; subst h
    exact ⟨_, rfl, a⟩
  | _, _, .cons a b, i + 1, d, h => by
    obtain ⟨v, h1, h2⟩ := DpAll.get b (i := i) (d := d) (by simpa using h)
    exact ⟨v, by simpa using h1, h2⟩
theorem DpAll.len {K : PySem.W.Frag} {H : Hp} : ∀ {vs : List V} {ds : List PyData}, DpAll K H vs ds → vs.length = ds.length
  | _, _, .nil => rfl
  | _, _, .cons a b => by simp [DpAll.len b]
theorem DpAll.take {K : PySem.W.Frag} {H : Hp} : ∀ {vs : List V} {ds : List PyData} (n : Nat), DpAll K H vs ds → DpAll K H (vs.take n) (ds.take n)
  | _, _, 0, _ => .nil
  | _, _, _ + 1, .nil => .nil
  | _, _, n + 1, .cons a b => .cons a (DpAll.take n b)
theorem DpAll.append {K : PySem.W.Frag} {H : Hp} : ∀ {vs ws : List V} {ds es : List PyData}, DpAll K H vs ds → DpAll K H ws es → DpAll K H (vs ++ ws) (ds ++ es)
  | _, _, _, _, .nil, s => s
  | _, _, _, _, .cons a b, s => .cons a (DpAll.append b s)
theorem DpAll.same {K : PySem.W.Frag} {H H' : Hp} (e : Same H H') : ∀ {vs : List V} {ds : List PyData}, DpAll K H vs ds → DpAll K H' vs ds
  | _, _, .nil => .nil
  | _, _, .cons a b => .cons (Dp.same e a) (DpAll.same e b)
theorem dp_ints {K : PySem.W.Frag} {H : Hp} : ∀ ns : List Int, DpAll K H (ns.map V.int) (ns.map PyData.int)
  | [] => .nil
  | n :: ns => .cons (.int n) (dp_ints ns)
theorem ty_tup {K : PySem.W.Frag} {H : Hp} {a : Addr} {xs : List V} (h : SqT K H a xs) : TyX K H (.ref a) (.type "tuple") := by
  rcases h with (h | ⟨o, h⟩) | ⟨o, its, n, h, hc, _⟩
  · exact .base (.tup h)
  · exact .fTuple h
  · exact .kTuple h hc

/-! ### lists of numbers -/
def vi (p : List Nat) : List V := p.map fun (m : Nat) => V.int (m : Int)
def ci (p : List Nat) : List Int := p.map fun (m : Nat) => (m : Int)
theorem vi_ci (p : List Nat) : vi p = (ci p).map V.int := by simp [vi, ci]
theorem vi_len (p : List Nat) : (vi p).length = p.length := by simp [vi]
theorem vi_get {p : List Nat} {i m : Nat} (h : p[i]? = some m) : (vi p)[i]? = some (.int (m : Int)) := by simp [vi, h]
theorem vi_app (p q : List Nat) : vi (p ++ q) = vi p ++ vi q := by simp [vi]
theorem at_vi {p : List Nat} {i m : Nat} (h : p[i]? = some m) : atI (vi p) (i : Int) = some (.int (m : Int)) := atI_nat (vi_get h)
theorem sz60 {n : Nat} (h : n ≤ 100000) : n ≤ sizeLine := Nat.le_trans h (by decide)
theorem sz61 {n : Nat} (h : n ≤ 100000) : n < sizeLine := Nat.lt_of_le_of_lt h (by decide)
theorem decT {c : Prop} [Decidable c] (h : c) {A B : Prop} (a : A) : if decide c = true then A else B := by
  rw [if_pos (decide_eq_true h)]; exact a
theorem decF {c : Prop} [Decidable c] (h : ¬ c) {A B : Prop} (b : B) : if decide c = true then A else B := by
  rw [if_neg (by simp [h])]; exact b

/-! ### data of tuples: no list within -/
inductive Tf : PyData → Prop
  | non : Tf .none
  | bl (b : Bool) : Tf (.bool b)
  | int (i : Int) : Tf (.int i)
  | str (x : Str) : Tf (.str x)
  | tup {ds : List PyData} : (∀ d, d ∈ ds → Tf d) → Tf (.tuple ds)
theorem Tf.items {ds : List PyData} (h : Tf (.tuple ds)) : ∀ d, d ∈ ds → Tf d := by
  cases h with
  | tup h => exact h
theorem tf_ints (ns : List Int) : ∀ d, d ∈ ns.map PyData.int → Tf d := fun d h => by
  obtain ⟨i, _, rfl⟩ := List.mem_map.mp h
  exact .int i
/-- all tuples stay -/
def Keep (K : PySem.W.Frag) (H H' : Hp) : Prop := ∀ a xs, SqT K H a xs → SqT K H' a xs
theorem Keep.of {K : PySem.W.Frag} {H H' : Hp} (s : Same H H') : Keep K H H' := fun _ _ h => Same.tup s h
theorem Keep.trans {K : PySem.W.Frag} {H H1 H2 : Hp} (a : Keep K H H1) (b : Keep K H1 H2) : Keep K H H2 := fun _ _ h => b _ _ (a _ _ h)
theorem Keep.refl {K : PySem.W.Frag} {H : Hp} : Keep K H H := fun _ _ h => h
/-- all but the list at l stay -/
def But (l : Addr) (H H' : Hp) : Prop := ∀ b o, b ≠ l → H b = some o → H' b = some o
theorem But.refl {l : Addr} {H : Hp} : But l H H := fun _ _ _ h => h
theorem But.trans {l : Addr} {H H1 H2 : Hp} (a : But l H H1) (b : But l H1 H2) : But l H H2 := fun c o n h => b c o n (a c o n h)
theorem But.of {l : Addr} {H H' : Hp} (s : Same H H') : But l H H' := fun c o _ h => s c o h
theorem But.upd {l : Addr} {H : Hp} {o : HO} : But l H (L2.upd H l o) := fun c u n h => by rw [upd_ne n]; exact h
theorem But.keep {K : PySem.W.Frag} {l : Addr} {H H' : Hp} {ys : List V} (s : But l H H') (hl : H l = some (.lst ys)) : Keep K H H' := fun a xs h => by
  rcases h with (h | ⟨o, h⟩) | h
  · exact .inl (.inl (s _ _ (fun e => by rw [e, hl] at h; cases h) h))
  · exact .inl (.inr ⟨o, s _ _ (fun e => by rw [e, hl] at h; cases h) h⟩)
  · exact .inr h
theorem But.same {l : Addr} {H0 H H' : Hp} (s : Same H0 H) (b : But l H H') (n : H0 l = none) : Same H0 H' := fun c o e => b c o (ne_of_none e n) (s c o e)
theorem Dp.keep {K : PySem.W.Frag} {H H' : Hp} (e : Keep K H H') : ∀ {v : V} {d : PyData}, Tf d → Dp K H v d → Dp K H' v d := by
  intro v d t h
  refine Dp.rec (motive_1 := fun v d _ => Tf d → Dp K H' v d) (motive_2 := fun vs ds _ => (∀ d, d ∈ ds → Tf d) → DpAll K H' vs ds) ?_ ?_ ?_ ?_ ?_ ?_ ?_ ?_ h t
  · intro _; exact .non
  · intro b _; exact .bl b
  · intro i _; exact .int i
  · intro x _; exact .str x
  · intro a xs ds hs _ ih t; cases t
  · intro a xs ds hs _ ih t; exact .tup (e _ _ hs) (ih t.items)
  · intro _; exact .nil
  · intro v vs d ds _ _ h1 h2 t; exact .cons (h1 (t _ (List.mem_cons_self ..))) (h2 fun d hd => t d (List.mem_cons_of_mem _ hd))
theorem DpAll.keep {K : PySem.W.Frag} {H H' : Hp} (e : Keep K H H') : ∀ {vs : List V} {ds : List PyData}, (∀ d, d ∈ ds → Tf d) → DpAll K H vs ds → DpAll K H' vs ds
  | _, _, _, .nil => .nil
  | _, _, t, .cons a b => .cons (Dp.keep e (t _ (List.mem_cons_self ..)) a) (DpAll.keep e (fun d hd => t d (List.mem_cons_of_mem _ hd)) b)
theorem dp_ints_inv {K : PySem.W.Frag} {H : Hp} : ∀ {ns : List Int} {vs : List V}, DpAll K H vs (ns.map PyData.int) → vs = ns.map V.int
  | [], _, .nil => rfl
  | n :: ns, _, .cons a b => by
    cases a
    rw [dp_ints_inv b]
    rfl
theorem Dp.tupInv {K : PySem.W.Frag} {H : Hp} {v : V} {ds : List PyData} (h : Dp K H v (.tuple ds)) : ∃ a xs, v = .ref a ∧ SqT K H a xs ∧ DpAll K H xs ds := by
  cases h with
  | tup h1 h2 => exact ⟨_, _, rfl, h1, h2⟩
theorem Dp.intsInv {K : PySem.W.Frag} {H : Hp} {v : V} {ns : List Int} (h : Dp K H v (.tuple (ns.map PyData.int))) : ∃ a, v = .ref a ∧ SqT K H a (ns.map V.int) := by
  obtain ⟨a, xs, e, h1, h2⟩ := Dp.tupInv h
  rw [dp_ints_inv h2] at h1
  exact ⟨a, e, h1⟩

/-! ### a comprehension that gives an item at each turn -/
theorem lc_all {K : PySem.W.Frag} {J : It} {n : Nat} {G : Hp → Prop} {Y : Nat → Hp → V → Hp → Prop} (w : Walk J n G Y) {g : TG} {tt : TT} {te : TE} {vs : List Nat} {σ : L2.St} {H1 : Hp} {D : Addr} {Qd : Hp → Prop}
    (ds : List PyData) (hl : ds.length = n) (ht : ∀ d, d ∈ ds → Tf d) (hn : n ≤ 1000) (hD : H1 D = none) (hG : ∀ H, Same H1 H → G H)
    (hs : ∀ i x H H', i < n → Same H1 H → Y i H x H' → ∀ d, ds[i]? = some d → ∀ R : V → Hp → Prop, (∀ y H4, Same H H4 → Dp K H4 y d → R y H4) →
      g x (wipe σ vs) H' fun σ2 H2 => wipe σ2 vs = wipe σ vs ∧ tt σ2 H2 fun b H3 => b = true ∧ te σ2 H3 R)
    (hd : ∀ H acc, Same H1 H → H D = some (.lst acc) → DpAll K H acc ds → Qd H)
    (mg : ∀ x σ' H' (Q Q' : L2.St → Hp → Prop), (∀ a b, Q a b → Q' a b) → g x σ' H' Q → g x σ' H' Q') (mt : ∀ σ' H' (Q Q' : Bool → Hp → Prop), (∀ a b, Q a b → Q' a b) → tt σ' H' Q → tt σ' H' Q') :
    ∃ W : Nat → Nat → Hp → Prop, (∃ m, W 0 m (upd H1 D (.lst []))) ∧ ∀ i m H, W i m H →
      (J.stop i H ∧ Qd H) ∨ (J.go i H ∧ ∃ Nx : Hp → Prop, (∀ H', Nx H' → ∃ m', m' < m ∧ W (i + 1) m' H') ∧ ∀ x H', J.yld i H x H' → g x (wipe σ vs) H' fun σ2 H2 => wipe σ2 vs = wipe σ vs ∧ tt σ2 H2 fun b H3 =>
        if b = true then te σ2 H3 fun y H4 => ∃ acc, H4 D = some (.lst acc) ∧ acc.length < sizeLine ∧ Nx (upd H4 D (.lst (acc ++ [y]))) else Nx H3) := by
  refine lc_it w (fun i H => Same H1 H ∧ ∃ acc, H D = some (.lst acc) ∧ DpAll K H acc (ds.take i)) ⟨same_upd hD, [], upd_same, .nil⟩ (fun i H _ h => hG H h.1) ?_ ?_
  · rintro i x H H' hi ⟨s1, acc, ha, hA⟩ hy
    have hd' : ds[i]? = some ds[i] := List.getElem?_eq_getElem (by omega)
    have hlen := DpAll.len hA
    rw [List.length_take] at hlen
    refine mg _ _ _ _ _ ?_ (hs i x H H' hi s1 hy ds[i] hd' (fun y H4 => ∃ acc, H4 D = some (.lst acc) ∧ acc.length < sizeLine ∧ (Same H1 (upd H4 D (.lst (acc ++ [y]))) ∧ ∃ acc', (upd H4 D (.lst (acc ++ [y]))) D = some (.lst acc') ∧ DpAll K (upd H4 D (.lst (acc ++ [y]))) acc' (ds.take (i + 1)))) ?_)
    · rintro σ2 H2 ⟨h1, h2⟩
      refine ⟨h1, mt _ _ _ _ ?_ h2⟩
      rintro b H3 ⟨rfl, h3⟩
      exact iteT h3
    · intro y H4 s4 hy4
      refine ⟨acc, s4 _ _ ha, sz61 (by omega), Same.mut (s1.trans s4) hD, acc ++ [y], upd_same, ?_⟩
      have kp : Keep K H4 (upd H4 D (.lst (acc ++ [y]))) := But.keep But.upd (s4 _ _ ha)
      rw [List.take_add_one, hd']
      refine DpAll.keep kp (fun d h => ?_) (DpAll.append (DpAll.same s4 hA) (.cons hy4 .nil))
      rcases List.mem_append.mp h with h | h
      · exact ht d (List.mem_of_mem_take h)
      · have e : d = ds[i] := by simpa using h
        rw [e]; exact ht _ (List.getElem_mem ..)
  · rintro H ⟨s1, acc, ha, hA⟩
    rw [List.take_of_length_le (by omega)] at hA
    exact hd H acc s1 ha hA

/-! ### tuples cut and joined -/
theorem cut_to {xs : List V} {k : Nat} (h : k ≤ xs.length) : cutV xs none (some (k : Int)) = xs.take k := by
  unfold cutV
  rw [HT.sIx_none, HT.sIx_nat, Nat.min_eq_left h]
  simp
theorem cut_from {xs : List V} {k : Nat} (h : k ≤ xs.length) : cutV xs (some (k : Int)) none = xs.drop k := by
  unfold cutV
  rw [HT.sIx_none, HT.sIx_nat, Nat.min_eq_left h]
  rw [List.take_of_length_le (by rw [List.length_drop]; omega)]
theorem sl_read {K : PySem.W.Frag} {H : Hp} {a : Addr} {xs : List V} {lo hi : Option Int} {Q : VK} (h : SqT K H a xs) (q : ∀ p H', Same H H' → SqT K H' p (cutV xs lo hi) → Q (.ref p) H') : rSlA K (.ref a) lo hi H Q := by
  refine ⟨a, xs, rfl, h, fun e => q a H (Same.refl H) ?_, fun _ p hp => q p _ (same_upd hp) (.inl (.inl upd_same))⟩
  unfold cutV
  rw [e.1, e.2]
  simpa using h
theorem cat_read {K : PySem.W.Frag} {H : Hp} {a b : Addr} {xs ys : List V} {Q : VK} (ha : SqT K H a xs) (hb : SqT K H b ys) (hz : xs.length + ys.length ≤ 100000) (q : ∀ p H', Same H H' → SqT K H' p (xs ++ ys) → Q (.ref p) H') : rCatA K (.ref a) (.ref b) H Q := by
  refine ⟨a, b, xs, ys, rfl, rfl, ha, hb, sz60 hz, fun e => q b H (Same.refl H) ?_, fun _ e => q a H (Same.refl H) ?_, fun _ _ p hp => q p _ (same_upd hp) (.inl (.inl upd_same))⟩
  · rw [e]; exact hb
  · rw [e, List.append_nil]; exact ha
theorem DpAll.snoc {K : PySem.W.Frag} {H : Hp} : ∀ {vs : List V} {ds : List PyData} {d : PyData}, DpAll K H vs (ds ++ [d]) → ∃ us v, vs = us ++ [v] ∧ DpAll K H us ds ∧ Dp K H v d
  | _, [], _, .cons a .nil => ⟨[], _, rfl, .nil, a⟩
  | _, _ :: ds, _, .cons a b => by
    obtain ⟨us, v, e, h1, h2⟩ := DpAll.snoc b
    exact ⟨_ :: us, v, by rw [e]; rfl, .cons a h1, h2⟩
theorem ixN_of {n j : Nat} (hj : j < n) : ixN n (j : Int) = some j := by
  unfold ixN
  rw [if_pos (by omega), if_pos (by omega)]
  simp
theorem vi_set (c : List Nat) (k v : Nat) : (vi c).set k (.int (v : Int)) = vi (c.set k v) := by
  unfold vi
  rw [List.map_set]
theorem vi_rep (n v : Nat) : vi (List.replicate n v) = List.replicate n (.int (v : Int)) := by simp [vi]

/-! ### [x for x in range(lo, hi) if ..] -/
theorem lc_fil {lo : Int} {n j : Nat} {vs : List Nat} {σ : L2.St} {H1 : Hp} {D : Addr} {Qd : Hp → Prop} {tt : TT} (f : Nat → Bool) (hn : n ≤ 1000) (hD : H1 D = none)
    (hw : ∀ x, wipe ((wipe σ vs).set j (some x)) vs = wipe σ vs) (hj : ∀ x : V, ((wipe σ vs).set j (some x))[j]? = some (some x))
    (ht : ∀ (i : Nat) H (Q : Bool → Hp → Prop), i < n → Same H1 H → Q (f i) H → tt ((wipe σ vs).set j (some (.int (lo + (i : Nat))))) H Q)
    (hd : ∀ H, Same H1 H → H D = some (.lst (((List.range n).filter f).map fun (i : Nat) => V.int (lo + (i : Nat)))) → Qd H) :
    ∃ W : Nat → Nat → Hp → Prop, (∃ m, W 0 m (upd H1 D (.lst []))) ∧ ∀ i m H, W i m H →
      ((Itr lo n).stop i H ∧ Qd H) ∨ ((Itr lo n).go i H ∧ ∃ Nx : Hp → Prop, (∀ H', Nx H' → ∃ m', m' < m ∧ W (i + 1) m' H') ∧ ∀ x H', (Itr lo n).yld i H x H' → gName j x (wipe σ vs) H' fun σ2 H2 => wipe σ2 vs = wipe σ vs ∧ tt σ2 H2 fun b H3 =>
        if b = true then tVar j σ2 H3 fun y H4 => ∃ acc, H4 D = some (.lst acc) ∧ acc.length < sizeLine ∧ Nx (upd H4 D (.lst (acc ++ [y]))) else Nx H3) := by
  refine lc_range (lo := lo) (n := n) (fun i H => Same H1 H ∧ H D = some (.lst (((List.range i).filter f).map fun (i : Nat) => V.int (lo + (i : Nat))))) ⟨same_upd hD, upd_same⟩ ?_ ?_
  · rintro i H hi ⟨s1, h1⟩
    refine ⟨hw _, ht i H _ hi s1 ?_⟩
    have hlen : (((List.range i).filter f).map fun (i : Nat) => V.int (lo + (i : Nat))).length ≤ i := by
      rw [List.length_map]
      have := List.length_filter_le f (List.range i)
      rw [List.length_range] at this
      exact this
    by_cases hf : f i = true
    · rw [hf]
      refine iteT ⟨_, hj _, _, h1, sz61 (by omega), Same.mut s1 hD, ?_⟩
      rw [List.range_succ, List.filter_append, List.map_append]
      simp only [List.filter_cons, hf, if_true, List.filter_nil, List.map_cons, List.map_nil]
      exact upd_same
    · have hf' : f i = false := by simpa using hf
      rw [hf']
      refine iteF ⟨s1, ?_⟩
      rw [List.range_succ, List.filter_append, List.map_append]
      simpa [hf'] using h1
  · rintro H ⟨s1, h1⟩
    exact hd H s1 h1
theorem iteB1 {b : Bool} {A B : Prop} (h : b = true) (a : A) : if b = true then A else B := by rw [if_pos h]; exact a
theorem iteB0 {b : Bool} {A B : Prop} (h : b = false) (a : B) : if b = true then A else B := by rw [if_neg (by rw [h]; decide)]; exact a

/-! ### deep comparisons -/
theorem lay_all : ∀ {ds : List PyData}, (∀ d, d ∈ ds → d.canLay0 = true) → PyData.canLayAll0 ds = true
  | [], _ => by simp [PyData.canLayAll0]
  | d :: ds, h => by
    simp only [PyData.canLayAll0]
    rw [h d (List.mem_cons_self ..), lay_all fun e he => h e (List.mem_cons_of_mem _ he)]; rfl
theorem dep_all {k : Nat} : ∀ {ds : List PyData}, (∀ d, d ∈ ds → d.depth ≤ k) → PyData.depthAll ds ≤ k
  | [], _ => by simp [PyData.depthAll]
  | d :: ds, h => by
    simp only [PyData.depthAll]
    have h1 := h d (List.mem_cons_self ..)
    have h2 := dep_all (k := k) fun e he => h e (List.mem_cons_of_mem _ he)
    omega
/-- plain data of at most so many levels -/
def Sh (k : Nat) (d : PyData) : Prop := d.canLay0 = true ∧ d.depth ≤ k
theorem Sh.shaped {k : Nat} {d : PyData} (h : Sh k d) (hk : k ≤ 64) : SeqAt.shaped d = true := by
  unfold SeqAt.shaped
  rw [h.1, decide_eq_true (by have := h.2; omega)]; rfl
theorem Sh.tup {k : Nat} {ds : List PyData} (h : ∀ d, d ∈ ds → Sh k d) : Sh (k + 1) (.tuple ds) :=
  ⟨by simp only [PyData.canLay0]; exact lay_all fun d hd => (h d hd).1, by simp only [PyData.depth]; have := dep_all (k := k) (ds := ds) fun d hd => (h d hd).2; omega⟩
theorem Sh.lst {k : Nat} {ds : List PyData} (h : ∀ d, d ∈ ds → Sh k d) : Sh (k + 1) (.list ds) :=
  ⟨by simp only [PyData.canLay0]; exact lay_all fun d hd => (h d hd).1, by simp only [PyData.depth]; have := dep_all (k := k) (ds := ds) fun d hd => (h d hd).2; omega⟩
theorem Sh.int (i : Int) {k : Nat} : Sh k (.int i) := ⟨by simp [PyData.canLay0], by simp [PyData.depth]⟩
theorem Sh.ints {k : Nat} (ns : List Int) : ∀ d, d ∈ ns.map PyData.int → Sh k d := fun d h => by
  obtain ⟨i, _, rfl⟩ := List.mem_map.mp h
  exact .int i
theorem eq_data {K : PySem.W.Frag} {H : Hp} {x y : V} {d : PyData} {Q : VK} {k : Nat} (hx : Dp K H x d) (hy : Dp K H y d) (hs : Sh k d) (hk : k ≤ 64) (q : Q (.bl true) H) : rEqD K x y H Q :=
  ⟨d, d, hx, hy, hs.shaped hk, hs.shaped hk, by rw [SeqAt.eqv_refl d hs.1]; exact q⟩
theorem ne_data {K : PySem.W.Frag} {H : Hp} {x y : V} {d : PyData} {Q : VK} {k : Nat} (hx : Dp K H x d) (hy : Dp K H y d) (hs : Sh k d) (hk : k ≤ 64) (q : Q (.bl false) H) : rNeD K x y H Q :=
  ⟨d, d, hx, hy, hs.shaped hk, hs.shaped hk, by rw [SeqAt.eqv_refl d hs.1]; exact q⟩
theorem dp_tup {K : PySem.W.Frag} {H : Hp} {a : Addr} {ns : List Int} (h : SqT K H a (ns.map V.int)) : Dp K H (.ref a) (.tuple (ns.map PyData.int)) := .tup h (dp_ints ns)
theorem ne_ints {K : PySem.W.Frag} {H : Hp} {a b : Addr} {ns : List Int} {Q : VK} (ha : SqT K H a (ns.map V.int)) (hb : SqT K H b (ns.map V.int)) (q : Q (.bl false) H) : rNeD K (.ref a) (.ref b) H Q :=
  ne_data (dp_tup ha) (dp_tup hb) (Sh.tup (k := 0) (Sh.ints ns)) (by decide) q
end MB

set_option maxHeartbeats 4000000
namespace MB
open PySem PySem.Spec PyProof.Rows L2

/-! ### a def called where no repr is under way -/
structure FnG (P : Program) (w : World) (K : PySem.W.Frag) (mg : Str → Option Value) (base : Heap) (CX : CXT) (k : Nat) (f : Addr) (fd : FuncData) (ps : List Str) (sp : Sp) : Prop where
  len : ∀ vs H Q E, sp vs H Q E → vs.length = ps.length
  run : ∀ (A : Around), A.guards = some [] → Room k A → ∀ (outer : List Env) (s : Shared) (H : Hp) (args : Args) (us : List Value) (vs : List V) (Q : VK) (E : XK),
    Env0 P w K mg base A outer s H → BindsTo s fd args (ps.zip us) → Vals vs us → sp vs H Q E → codeAny (model P w) A (.call (.ref f) args) (CR CX outer P w H s Q E) s
section
variable {P : Program} {w : World} {K : PySem.W.Frag} {mg : Str → Option Value} {base : Heap} {CX : CXT} {k : Nat} {f : Addr} {fd : FuncData} {ps : List Str} {sp : Sp}
theorem FnG.of (F : FnOk P w K mg base CX k f fd ps sp) : FnG P w K mg base CX k f fd ps sp :=
  ⟨F.len, fun A _ hr outer s H args us vs Q E => F.run A outer s H args us vs Q E hr⟩
theorem deeper_guards {A : Around} {env : Env} (h : A.guards = some []) : (A.deeper env).guards = some [] := h
theorem fnG_of {name qual : Str} {params : Arguments} {body : List Stmt} {scope : Scope} {dV kV doc pm cdv ct oc : Value} {an od : Option Addr} {osl : Array (Option Value)} {N : List Str}
    (lk : K.lookup f = some ⟨oc, od, .func (PySem.W.fnOf name qual params body scope dV kV doc pm an cdv ct), osl⟩) (hcd : PySem.W.codeIn K cdv qual = true) (S : FnScope N ps scope)
    (len : ∀ vs H Q E, sp vs H Q E → vs.length = ps.length)
    (hbody : ∀ (A : Around), A.guards = some [] → ∀ (outer : List Env) (s : Shared) (H : Hp) (vs : List V) (Q : VK) (E : XK), Room k (A.deeper (envOfC qual scope s.heap.objs.size f cdv)) → sp vs H Q E →
      ∃ t, PSs (cxOf CX P w K mg base N qual scope f cdv A outer s H E) body t ∧ t { nx := fun _ H' => Q .non H', rt := Q } (start N vs) H) :
    FnG P w K mg base CX (k + 1) f (PySem.W.fnOf name qual params body scope dV kV doc pm an cdv ct) ps sp := by
  refine ⟨len, fun A hgd hr outer s H args us vs Q E e0 hb r hsp => ?_⟩
  have kept : ∀ b o, base.get? b = some o → s.heap.get? b = some o := fun b o e => (e0.bs b o e).1
  have KX : K.In s.heap := e0.mod.kin.keeps kept
  obtain ⟨t, ht, hq⟩ := hbody A hgd outer s H vs Q E (hr.deeper _) hsp
  have par : ∀ y ∈ ps.zip us, scope.names.lookup y.1 = some .local ∨ (scope.names.lookup y.1 = some .cell ∧ ((cellsFrom (s.heap.objs.size + 1) scope.names []).lookup y.1).isSome = true) := by
    rintro ⟨n, v⟩ hy
    exact (S.par n (List.of_mem_zip hy).1).imp id fun z => ⟨z, PySem.W.cellsFrom_some _ _ _ (.inl z)⟩
  refine codeAny_call_function hr.depth (KX _ _ lk) rfl S.co S.gen rfl (PySem.W.codeRec_of KX hcd) (hb _ _ _ _ (wpAny_newFunctionEnv_cells S.kind par fun env he s1 x => ?_))
  subst he
  refine ⟨(e0.mod.nolimit.keeps kept).keeps x.toInCall.keep, codeAny_func (wpAny_mono (ht.run [] s1 (start N vs) H _ (inv_start S hr.hd e0 (len _ _ _ _ hsp) r x) hq) (fun fl s' hs => ?_) fun e s' hs => hs)⟩
  rcases fl with _ | _ | _ | u
  · obtain ⟨σ', H', J, q⟩ := hs
    exact ⟨V.non, H', J.os, J.bare, J.base, J.hok, rfl, q⟩
  · exact (let ⟨_, _, _, q⟩ := hs; False.elim q)
  · exact (let ⟨_, _, _, q⟩ := hs; False.elim q)
  · obtain ⟨v, σ', H', J, rv, q⟩ := hs
    exact ⟨v, H', J.os, J.bare, J.base, J.hok, rv, q⟩
theorem Fun.okG {x qual : Str} {st : Stmt} {N : List Str} (F : L2.Fun K x qual st f fd) (S : FnScope N ps (defScope st)) (len : ∀ vs H Q E, sp vs H Q E → vs.length = ps.length)
    (hbody : ∀ (cdv : Value) (A : Around), A.guards = some [] → ∀ (outer : List Env) (s : Shared) (H : Hp) (vs : List V) (Q : VK) (E : XK), Room k (A.deeper (envOfC qual (defScope st) s.heap.objs.size f cdv)) → sp vs H Q E →
      ∃ t, PSs (cxOf CX0 P w K mg base N qual (defScope st) f cdv A outer s H E).nox (defBody st) t ∧ t { nx := fun _ H' => Q .non H', rt := Q } (start N vs) H) : FnG P w K mg base CX0 (k + 1) f fd ps sp := by
  obtain ⟨oc, od, kV, doc, pm, an, cdv, ct, osl, rfl, lk, hcd⟩ := F.ex
  exact fnG_of lk hcd S len fun A hgd outer s H vs Q E hr hsp => let ⟨t, h, q⟩ := hbody cdv A hgd outer s H vs Q E hr hsp; ⟨t, h.nox, q⟩
end
section
variable {X : Cx} {CX : CXT} {k : Nat} {f : Addr} {fd : FuncData} {ps : List Str} {sp : Sp} {ds : List Value} {dvs : List V} {E : XK} {x : Str} {p pos : Pos} {e : Expr} {es : List Expr} {t : TA}
theorem pe_callG (F : FnG X.prog X.w X.K X.mg X.base CX k f fd ps sp) (hgd : X.A.guards = some []) (hr : Room k X.A) (hg : Gl X x) (hm : X.mg x = some (.ref f)) (hk : PySem.W.keepIn X.K (.ref f) = true) (hb : Binds X.K fd ps ds) (hd : Vals dvs ds) (hx : Passes CX X E)
    (ha : PA X (e :: es) t) (hdb : (x == ("__debug__" : Str)) = false := by decide) (he : starEach (e :: es) X.env = (false, eval e X.env) :: starEach es X.env := by rfl) (hpl : (backTo pos (starEach es X.env)).any (·.1) = false := by rfl) :
    PE X (.Call (.Name x p) (e :: es) [] pos) (tCall sp dvs E t) := by
  refine ⟨fun pins s σ H Q I h => wpAny_Call_Name_kw (ld_glob I hg hm (PySem.W.callWith_K (h₀ := X.base) I.ok.mod.kin hk (thn (ha.run pos pins s σ H _ I h) fun us s1 ⟨vs, H1, I1, r, q⟩ => ⟨I1.kIn, ?_⟩) he hpl) hdb)⟩
  have r2 : Vals (vs ++ dvs) (us ++ ds) := r.append hd
  have hl : (us ++ ds).length = ps.length := r2.length.symm.trans (F.len _ _ _ _ q)
  refine wpAny_call (codeAny_mono (F.run X.A hgd hr X.stack s1 H1 ⟨us, []⟩ (us ++ ds) (vs ++ dvs) Q E I1.env0 (hb s1 us I1.kIn hl) r2 q) fun res s' hq => ?_)
  rcases res with e | fl
  · exact hx pins σ H1 s1 e s' I1 hq
  · rcases fl with _ | _ | _ | u
    · exact False.elim hq
    · exact False.elim hq
    · exact False.elim hq
    · exact I1.after hq
end

/-! ### repr of plain data -/
def rReprD (K : PySem.W.Frag) : List V → Hp → VK → Prop := fun xs H Q => ∃ (x : V) (d : PyData), xs = [x] ∧ Dp K H x d ∧ d.canLay0 = true ∧ d.showable = true ∧ d.depth ≤ 60 ∧ d.shown.length ≤ sizeLine ∧ Q (.str d.shown) H
theorem call_reprD {X : Cx} (hgd : X.A.guards = some []) (hu : X.A.units + 64 < cLine) : CallR X (.builtin "repr") (rReprD X.K) := by
  intro pins s σ H xs us Q I r h
  obtain ⟨x, d, rfl, hd, hc, hs, hdep, hz, q⟩ := h
  obtain ⟨u, rfl, rx⟩ := vals1 r
  obtain ⟨as, rd⟩ := Dp.reads I d x u hd rx
  have nd := PyData.hasDict_of_canLay d hc
  have fin : ∀ (h' : Heap) (v tk : Tok), (∀ b o, s.heap.get? b = some o → h'.get? b = some o) → EP X pins σ Q (.str d.shown v) { s with heap := h', toks := tk } := fun h' v tk hk => ⟨.str d.shown, H, I.kept hk, ⟨_, rfl⟩, q⟩
  cases rd with
  | none => exact PySem.P.repr_of_none (fin _ _ _ fun _ _ e => e)
  | bool b =>
    refine PySem.P.repr_of_bool ?_
    cases b <;> exact fin s.heap s.toks (s.toks + 1) fun _ _ e => e
  | int i t => exact PySem.P.repr_of_int (by simpa [PyData.showable] using hs) (fin s.heap s.toks (s.toks + 1) fun _ _ e => e)
  | str y t => exact PySem.P.repr_of_str (fin s.heap s.toks (s.toks + 1) fun _ _ e => e) hz
  | list h1 h2 h3 h4 => exact repr_of_reads' (.list h1 h2 h3 h4) hs (PyData.noDict_hsm nd) hgd (by omega) (fun _ _ e => e) fin hz
  | tuple h1 h2 h3 h4 => exact repr_of_reads' (.tuple h1 h2 h3 h4) hs (PyData.noDict_hsm nd) hgd (by omega) (fun _ _ e => e) fin hz
  | dict h1 h2 h3 h4 h5 => simp [PyData.canLay0] at hc

/-! ### the end: a law whose promise asks that no repr is under way -/
theorem law_callG {P : Program} {w : World} {K : PySem.W.Frag} {mg mb : Str → Option Value} {k : Nat} {fa a : Addr} {fd : FuncData} {x : Str} {sp : Sp} {s₁ : Shared} {vs : List Value} {ns : List Int}
    (KX : K.In s₁.heap) (hns : s₁.heap.Ns mainGlobals mg) (hb : s₁.heap.Ns builtinsNs mb) (hbb : ∀ x : Str, x ≠ "__name__" → mb x = bootBuiltins x) (hlim : s₁.heap.NoLimit) (hg : s₁.gens = #[])
    (ha : s₁.heap.get? a = some { cls := .type "list", data := .seq vs.toArray }) (hi : IntsAre vs ns) (hl : ns.length ≤ sizeLine) (hr : Room k callerA)
    (F : ∀ base : Heap, K.In base → base.Ns mainGlobals mg → FnG P w K mg base CX0 k fa fd [x] sp) (hbind : ∀ (s : Shared) (u : Value), BindsTo s fd ⟨[u], []⟩ [(x, u)])
    (hsp : ∀ H : Hp, SqL K H a (ns.map V.int) → sp [.ref a] H (fun v _ => v = .bl true) fun _ _ _ => False) :
    codeAny (model P w) callerA (.call (.ref fa) ⟨[.ref a], []⟩) (fun r s' => r = .ok (.ret (.bool true)) ∧ OldK s₁.heap s'.heap ∧ s'.os = s₁.os ∧ AllBare s'.gens) s₁ := by
  let oS : Obj := { cls := .type "list", data := .seq vs.toArray }
  -- the script is tracked as it stands, unless it is one of the module's own objects
  let H : Hp := fun b => if b = a ∧ K.lookup a = none then some (.frz oS (.lst (ns.map V.int))) else none
  have rv := vals_ints hi
  have Hsome : ∀ {b : Addr} {o : HO}, H b = some o → b = a ∧ K.lookup a = none ∧ o = .frz oS (.lst (ns.map V.int)) := fun {b o} e => by
    by_cases c : b = a ∧ K.lookup a = none
    · have e' := (if_pos c).symm.trans e
      exact ⟨c.1, c.2, (Option.some.inj e').symm⟩
    · have e' := (if_neg c).symm.trans e
      cases e'
  have free : ∀ {b : Addr}, (∀ z : b = a, K.lookup a ≠ none) → H b = none := fun {b} n => if_neg fun c => n c.1 c.2
  have hS : SqL K H a (ns.map V.int) := by
    cases hk : K.lookup a with
    | none => exact .inl (.inr ⟨oS, if_pos ⟨rfl, hk⟩⟩)
    | some o =>
      have e := (KX a o hk).symm.trans ha
      cases e
      exact .inr ⟨_, vs.toArray, _, hk, rfl, rfl, rfl, by rw [List.size_toArray, hi.length]; exact hl, by simpa using rv⟩
  have hok : HOk P w H s₁.heap := fun b o e => by
    obtain ⟨rfl, _, rfl⟩ := Hsome e
    exact ⟨ha, by rw [List.length_map]; exact hl, vs, _, rv, ha⟩
  have noDict : ∀ {b : Addr} {o : Obj} {es : Array DictEntry} {ep : Nat}, s₁.heap.get? b = some o → o.data = .dict es ep → H b = none := fun {b o es ep} e d => free fun z => by
    subst z
    rw [ha] at e
    cases e
    cases d
  have ns_hid : ∀ {b : Addr} {m : Str → Option Value}, s₁.heap.Ns b m → (hidT s₁.heap H).Ns b m := fun {b m} ⟨o, es, ep, e, d, r⟩ => ⟨o, es, ep, hidT_get e (noDict e d), d, r⟩
  have hKb : K.In (hidT s₁.heap H) := fun b o e => hidT_get (KX b o e) (free fun z => by subst z; rw [e]; exact fun y => nomatch y)
  have hM : Mod K mg (hidT s₁.heap H) := ⟨hKb, ns_hid hns, ⟨mb, ns_hid hb, hbb⟩, let ⟨mc, h1, h2⟩ := hlim; ⟨mc, ns_hid h1, h2⟩⟩
  have e0 : Env0 P w K mg (hidT s₁.heap H) callerA [] s₁ H := ⟨rfl, hM, fun b o e => of_hidT e, Nat.le_of_eq (hidT_size _ _), trivial, (fun b hb => absurd (show b ∈ ([] : List Addr) from hb) (by simp)), hok, .of_eq hg⟩
  refine codeAny_mono ((F _ hKb (ns_hid hns)).run callerA rfl hr [] s₁ H ⟨[.ref a], []⟩ [.ref a] [.ref a] _ _ e0 (hbind s₁ (.ref a)) (.cons rfl .nil) (hsp H hS)) fun r s' h => ?_
  rcases r with e | fl
  · exact False.elim h
  rcases fl with _ | _ | _ | u
  · exact False.elim h
  · exact False.elim h
  · exact False.elim h
  obtain ⟨v, H', os, bare, un, hok', r', q⟩ := h
  have q' : v = .bl true := q
  subst q'
  obtain rfl : u = Value.bool true := r'
  refine ⟨rfl, OldK.of_keep fun b o e => ?_, os, bare⟩
  cases hb' : H b with
  | none => exact un.keep b o e hb' (fun z => absurd (show b ∈ ([] : List Addr) from z) (by simp)) (by simp)
  | some u =>
    obtain ⟨rfl, hk, rfl⟩ := Hsome hb'
    have e2 := (hok' _ _ (un.frzs _ oS _ hb')).1
    rw [ha] at e
    cases e
    exact e2
theorem walk_ofG {l : PySem.W.OpenLaw} {n k : Nat} {q : Program} {loose : List Str} {XP : (Str → Option Value) → Heap → Prop} {YP : World → Heap → Prop} {d : DefRec} {K : Params → PySem.W.Frag} {sp : PySem.W.Frag → Sp} {x : Str}
    (hn : l.most = some n) (hn2 : n ≤ sizeLine) (hdf : d.params.defaults = []) (hr : Room k callerA)
    (hY : ∀ (w : World) (h : Heap), YP w h → (K w.params).In h)
    (F : ∀ (w : World) (mg : Str → Option Value) (fa : Addr) (h : Heap), (K w.params).In h → h.Ns mainGlobals mg → mg d.name = some (.ref fa) →
      ∃ fd : FuncData, (∀ (s : Shared) (u : Value), BindsTo s fd ⟨[u], []⟩ [(x, u)]) ∧
        ∀ base : Heap, (K w.params).In base → base.Ns mainGlobals mg → FnG l.prog w (K w.params) mg base CX0 k fa fd [x] (sp (K w.params)))
    (hsp : ∀ (K : PySem.W.Frag) (H : Hp) (a : Addr) (ns : List Int), ns.length ≤ n → SqL K H a (ns.map V.int) → sp K [.ref a] H (fun v _ => v = .bl true) fun _ _ _ => False) :
    PySem.W.WalkO q loose XP YP l.row.toRowW d [] (fun f vs => PySem.call f vs) :=
  Att.attach_call hn hdf fun w s₀ s₁ mg mb fa o pm cd doc a vs ns G Y ho hd hcd hmg hobj hints hlen hg =>
    have KX := hY w _ Y
    let ⟨fd, hb, hF⟩ := F w mg fa _ KX G.T.g hmg
    law_callG KX G.T.g G.T.b G.T.builtins G.T.nolimit hg hobj hints (Nat.le_trans hlen hn2) hr hF hb fun H hS => hsp _ H a ns hlen hS
end MB

set_option maxHeartbeats 4000000
namespace MB
open PySem PySem.Spec PyProof.Rows L2
/-- data whose repr is asked: levels, size -/
structure Rp (k n : Nat) (d : PyData) : Prop where
  sh : Sh k d
  shw : d.showable = true
  short : d.leavesShort 13 = true
  bulk : d.bulk ≤ n
theorem Rp.mono {k n m : Nat} {d : PyData} (h : Rp k n d) (e : n ≤ m) : Rp k m d := ⟨h.sh, h.shw, h.short, Nat.le_trans h.bulk e⟩
theorem Rp.int {i : Int} {k : Nat} (h : i.natAbs < 1000000) : Rp k 0 (.int i) := by
  refine ⟨.int i, ?_, ?_, by simp [PyData.bulk]⟩
  · simp only [PyData.showable]
    refine decide_eq_true ?_
    by_cases h0 : i.natAbs = 0
    · rw [h0]; decide
    · exact Nat.lt_trans ((Nat.log2_lt h0).mpr (show i.natAbs < 2 ^ 20 by omega)) (by decide)
  · simp only [PyData.leavesShort]
    refine decide_eq_true ?_
    have e := int_text_length_le10 (a := i) (k := 6) (by decide) h
    have e2 : (PyData.shown (.int i)).length = (toString i).length := by
      simp only [PyData.shown]
      exact PySem.ofString_length _
    omega
theorem rp_all {k n : Nat} : ∀ {ds : List PyData}, (∀ d, d ∈ ds → Rp k n d) → PyData.showableAll ds = true ∧ PyData.leavesShortAll 13 ds = true ∧ PyData.bulkAll ds ≤ (n + 1) * ds.length
  | [], _ => ⟨by simp [PyData.showableAll], by simp [PyData.leavesShortAll], by simp [PyData.bulkAll]⟩
  | d :: ds, h => by
    have h1 := h d (List.mem_cons_self ..)
    obtain ⟨a, b, c⟩ := rp_all fun e he => h e (List.mem_cons_of_mem _ he)
    refine ⟨by simp only [PyData.showableAll, h1.shw, a, Bool.and_self], by simp only [PyData.leavesShortAll, h1.short, b, Bool.and_self], ?_⟩
    simp only [PyData.bulkAll, List.length_cons]
    have := h1.bulk
    rw [Nat.mul_add]
    omega
theorem Rp.tup {k n m : Nat} {ds : List PyData} (h : ∀ d, d ∈ ds → Rp k n d) (hm : (n + 1) * ds.length ≤ m) : Rp (k + 1) m (.tuple ds) := by
  obtain ⟨a, b, c⟩ := rp_all h
  exact ⟨Sh.tup fun d hd => (h d hd).sh, by simp only [PyData.showable]; exact a, by simp only [PyData.leavesShort]; exact b, by simp only [PyData.bulk]; omega⟩
theorem Rp.lst {k n m : Nat} {ds : List PyData} (h : ∀ d, d ∈ ds → Rp k n d) (hm : (n + 1) * ds.length ≤ m) : Rp (k + 1) m (.list ds) := by
  obtain ⟨a, b, c⟩ := rp_all h
  exact ⟨Sh.lst fun d hd => (h d hd).sh, by simp only [PyData.showable]; exact a, by simp only [PyData.leavesShort]; exact b, by simp only [PyData.bulk]; omega⟩
theorem Rp.ints {ns : List Int} {k m : Nat} (h : ∀ i, i ∈ ns → i.natAbs < 1000000) (hm : ns.length ≤ m) : Rp (k + 1) m (.tuple (ns.map PyData.int)) :=
  Rp.tup (n := 0) (fun d hd => by obtain ⟨i, hi, rfl⟩ := List.mem_map.mp hd; exact .int (h i hi)) (by rw [List.length_map]; omega)
theorem Rp.bool {b : Bool} {k : Nat} : Rp k 0 (.bool b) := ⟨⟨by simp [PyData.canLay0], by simp [PyData.depth]⟩, by simp [PyData.showable], by simp [PyData.leavesShort], by simp [PyData.bulk]⟩
/-- repr(x), by data -/
theorem repr_read {K : PySem.W.Frag} {H : Hp} {x : V} {d : PyData} {Q : VK} {k n : Nat} (hd : Dp K H x d) (hs : Rp k n d) (hk : k ≤ 60) (hn : n ≤ 1048576) (q : Q (.str d.shown) H) : rReprD K [x] H Q :=
  ⟨x, d, rfl, hd, hs.sh.1, hs.shw, Nat.le_trans hs.sh.2 hk, PyData.shown_fits_bulk (B := 13) (by decide) (by decide) hs.short (Nat.le_trans hs.bulk (by omega)), q⟩
theorem Rp.all {k n : Nat} {d : PyData} (hs : Rp k n d) (hk : k ≤ 60) (hn : n ≤ 1048576) : d.canLay0 = true ∧ d.showable = true ∧ d.depth ≤ 60 ∧ d.shown.length ≤ sizeLine :=
  ⟨hs.sh.1, hs.shw, Nat.le_trans hs.sh.2 hk, PyData.shown_fits_bulk (B := 13) (by decide) (by decide) hs.short (Nat.le_trans hs.bulk (by omega))⟩
end MB

set_option maxHeartbeats 4000000
namespace MB
open PySem PySem.Spec PyProof.Rows L2
/-- data whose repr is asked: levels, size -/
structure RpW (k n : Nat) (d : PyData) : Prop where
  sh : Sh k d
  shw : d.showable = true
  short : d.leavesShort  75 = true
  bulk : d.bulk ≤ n
theorem RpW.mono {k n m : Nat} {d : PyData} (h : RpW k n d) (e : n ≤ m) : RpW k m d := ⟨h.sh, h.shw, h.short, Nat.le_trans h.bulk e⟩
theorem RpW.int {i : Int} {k : Nat} (h : i.natAbs < 10 ^ 70) : RpW k 0 (.int i) := by
  refine ⟨.int i, ?_, ?_, by simp [PyData.bulk]⟩
  · simp only [PyData.showable]
    refine decide_eq_true ?_
    by_cases h0 : i.natAbs = 0
    · rw [h0]; decide
    · exact Nat.lt_trans ((Nat.log2_lt h0).mpr (show i.natAbs < 2 ^ 240 by exact Nat.lt_trans h (by decide +kernel))) (by decide)
  · simp only [PyData.leavesShort]
    refine decide_eq_true ?_
    have e := int_text_length_le10 (a := i) (k := 70) (by decide) h
    have e2 : (PyData.shown (.int i)).length = (toString i).length := by
      simp only [PyData.shown]
      exact PySem.ofString_length _
    omega
theorem rpW_all {k n : Nat} : ∀ {ds : List PyData}, (∀ d, d ∈ ds → RpW k n d) → PyData.showableAll ds = true ∧ PyData.leavesShortAll  75 ds = true ∧ PyData.bulkAll ds ≤ (n + 1) * ds.length
  | [], _ => ⟨by simp [PyData.showableAll], by simp [PyData.leavesShortAll], by simp [PyData.bulkAll]⟩
  | d :: ds, h => by
    have h1 := h d (List.mem_cons_self ..)
    obtain ⟨a, b, c⟩ := rpW_all fun e he => h e (List.mem_cons_of_mem _ he)
    refine ⟨by simp only [PyData.showableAll, h1.shw, a, Bool.and_self], by simp only [PyData.leavesShortAll, h1.short, b, Bool.and_self], ?_⟩
    simp only [PyData.bulkAll, List.length_cons]
    have := h1.bulk
    rw [Nat.mul_add]
    omega
theorem RpW.tup {k n m : Nat} {ds : List PyData} (h : ∀ d, d ∈ ds → RpW k n d) (hm : (n + 1) * ds.length ≤ m) : RpW (k + 1) m (.tuple ds) := by
  obtain ⟨a, b, c⟩ := rpW_all h
  exact ⟨Sh.tup fun d hd => (h d hd).sh, by simp only [PyData.showable]; exact a, by simp only [PyData.leavesShort]; exact b, by simp only [PyData.bulk]; omega⟩
theorem RpW.lst {k n m : Nat} {ds : List PyData} (h : ∀ d, d ∈ ds → RpW k n d) (hm : (n + 1) * ds.length ≤ m) : RpW (k + 1) m (.list ds) := by
  obtain ⟨a, b, c⟩ := rpW_all h
  exact ⟨Sh.lst fun d hd => (h d hd).sh, by simp only [PyData.showable]; exact a, by simp only [PyData.leavesShort]; exact b, by simp only [PyData.bulk]; omega⟩
theorem RpW.ints {ns : List Int} {k m : Nat} (h : ∀ i, i ∈ ns → i.natAbs < 10 ^ 70) (hm : ns.length ≤ m) : RpW (k + 1) m (.tuple (ns.map PyData.int)) :=
  RpW.tup (n := 0) (fun d hd => by obtain ⟨i, hi, rfl⟩ := List.mem_map.mp hd; exact .int (h i hi)) (by rw [List.length_map]; omega)
theorem RpW.bool {b : Bool} {k : Nat} : RpW k 0 (.bool b) := ⟨⟨by simp [PyData.canLay0], by simp [PyData.depth]⟩, by simp [PyData.showable], by simp [PyData.leavesShort], by simp [PyData.bulk]⟩
theorem fits75 {d : PyData} (hl : d.leavesShort 75 = true) (hw : d.bulk ≤ 100000) : d.shown.length ≤ sizeLine := by
  have h := PyData.shown_le_bulk 75 (by decide) d hl
  have h2 : (75 + 2) * d.bulk ≤ 77 * 100000 := Nat.mul_le_mul (by omega) (by omega)
  have e : sizeLine = 16777216 := by decide
  omega
/-- repr(x), by data -/
theorem reprW_read {K : PySem.W.Frag} {H : Hp} {x : V} {d : PyData} {Q : VK} {k n : Nat} (hd : Dp K H x d) (hs : RpW k n d) (hk : k ≤ 60) (hn : n ≤ 100000) (q : Q (.str d.shown) H) : rReprD K [x] H Q :=
  ⟨x, d, rfl, hd, hs.sh.1, hs.shw, Nat.le_trans hs.sh.2 hk, fits75 hs.short (Nat.le_trans hs.bulk hn), q⟩
theorem RpW.all {k n : Nat} {d : PyData} (hs : RpW k n d) (hk : k ≤ 60) (hn : n ≤ 100000) : d.canLay0 = true ∧ d.showable = true ∧ d.depth ≤ 60 ∧ d.shown.length ≤ sizeLine :=
  ⟨hs.sh.1, hs.shw, Nat.le_trans hs.sh.2 hk, fits75 hs.short (Nat.le_trans hs.bulk hn)⟩
end MB

set_option maxHeartbeats 4000000
namespace MB
open PySem PySem.Spec PyProof.Rows L2
/-! ### data of any kind, dicts among them -/
def kD : Key → PyData
  | .inl i => .int i
  | .inr x => .str x
mutual
inductive Dq (K : PySem.W.Frag) (H : Hp) : V → PyData → Prop
  | nonq : Dq K H .non .none
  | blq (b : Bool) : Dq K H (.bl b) (.bool b)
  | intq (i : Int) : Dq K H (.int i) (.int i)
  | strq (x : Str) : Dq K H (.str x) (.str x)
  | lstq {a : Addr} {xs : List V} {ds : List PyData} : SqL K H a xs → a ≠ sysModules → DqAll K H xs ds → Dq K H (.ref a) (.list ds)
  | tupq {a : Addr} {xs : List V} {ds : List PyData} : SqT K H a xs → DqAll K H xs ds → Dq K H (.ref a) (.tuple ds)
  | dctq {a : Addr} {kvs : List (Key × V)} {des : List (PyData × PyData)} : H a = some (.dK kvs) → des.map (·.1) = kvs.map (fun p => kD p.1) → DqAll K H (kvs.map (·.2)) (des.map (·.2)) → Dq K H (.ref a) (.dict des)
inductive DqAll (K : PySem.W.Frag) (H : Hp) : List V → List PyData → Prop
  | nil : DqAll K H [] []
  | cons {v : V} {vs : List V} {d : PyData} {ds : List PyData} : Dq K H v d → DqAll K H vs ds → DqAll K H (v :: vs) (d :: ds)
end
section
variable {X : Cx} {pins : List (Addr × Obj)} {σ : L2.St} {H : Hp} {s : Shared}
theorem keys_read {h : Heap} {P : Program} {w : World} {es : List DictEntry} {vs : List (Key × Value)} (hp : Pairs (mixKind P w) es vs) : ∀ {kvs : List (Key × V)}, KV kvs vs →
    ReadsAll h (es.map (·.key)) (kvs.map fun p => kD p.1) [] ∧ Vals (kvs.map (·.2)) (es.map (·.val)) := by
  induction hp with
  | nil => intro kvs r; cases r; exact ⟨.nil, .nil⟩
  | @cons e kv es vs a b c ih =>
    intro kvs r
    cases r with
    | @cons p _ ps _ r t =>
      obtain ⟨h1, h2⟩ := ih t
      obtain ⟨r1, r2⟩ := r
      have r3 : RelV p.2 e.val := by rw [b]; exact r2
      refine ⟨?_, .cons r3 h2⟩
      have e1 : keyIs kv.1 e.key = true := a
      rw [List.map_cons, List.map_cons, r1]
      rcases keyIs_shape e1 with ⟨i, t, h3, h4⟩ | ⟨x, t, h3, h4⟩
      · rw [h3, h4]; exact ReadsAll.cons (as := []) (bs := []) (.int i t) h1
      · rw [h3, h4]; exact ReadsAll.cons (as := []) (bs := []) (.str x t) h1
theorem Dq.reads (I : Inv X pins σ H s) {d : PyData} {v : V} (hq : Dq X.K H v d) : ∀ u : Value, RelV v u → ∃ as, Reads s.heap u d as ∧ sysModules ∉ as := by
  refine Dq.rec (motive_1 := fun v d _ => ∀ u : Value, RelV v u → ∃ as, Reads s.heap u d as ∧ sysModules ∉ as) (motive_2 := fun vs ds _ => ∀ us : List Value, Vals vs us → ∃ as, ReadsAll s.heap us ds as ∧ sysModules ∉ as) ?_ ?_ ?_ ?_ ?_ ?_ ?_ ?_ ?_ hq
  · intro u r; cases r; exact ⟨_, .none, by simp⟩
  · intro b u r; cases r; exact ⟨_, .bool b, by simp⟩
  · intro i u r; obtain ⟨t, rfl⟩ := r; exact ⟨_, .int i t, by simp⟩
  · intro x u r; obtain ⟨t, rfl⟩ := r; exact ⟨_, .str x t, by simp⟩
  · intro a xs ds hs hne _ ih u r
    cases r
    obtain ⟨its, rv, ⟨o, n, h1, h2, h3, h4⟩, _⟩ := I.list hs
    obtain ⟨as, ra, na⟩ := ih _ rv
    refine ⟨_, .list h1 h2 h4 (by simpa using ra), ?_⟩
    intro hm
    rcases List.mem_cons.mp hm with e | e
    · exact hne e.symm
    · exact na e
  · intro a xs ds hs _ ih u r
    cases r
    obtain ⟨its, rv, ⟨o, h1, h2, n, h3⟩, _⟩ := I.tuple hs
    obtain ⟨as, ra, na⟩ := ih _ rv
    exact ⟨_, .tuple h1 h2 h3 (by simpa using ra), na⟩
  · intro a kvs des he hk _ ih u r
    cases r
    obtain ⟨_, hsys, vs, kv, o, es, ep, h1, h2, h3, _, h5, _⟩ := dk_of I.hok he
    obtain ⟨g1, g2⟩ := keys_read (h := s.heap) h5 kv
    obtain ⟨bs, rb, nb⟩ := ih _ g2
    refine ⟨_, .dict h1 h2.1 h3 (by rw [hk]; exact g1) rb, ?_⟩
    intro hm
    rcases List.mem_cons.mp hm with e | e
    · rw [← e] at hsys; simp at hsys
    · exact nb (by simpa using e)
  · intro us t; cases t; exact ⟨_, .nil, by simp⟩
  · intro v vs d ds _ _ h1 h2 us t
    cases t with
    | cons r t =>
      obtain ⟨as, g1, n1⟩ := h1 _ r
      obtain ⟨bs, g2, n2⟩ := h2 _ t
      exact ⟨_, .cons g1 g2, by simp [n1, n2]⟩
end
theorem Dq.same {K : PySem.W.Frag} {H H' : Hp} (e : Same H H') {v : V} {d : PyData} (h : Dq K H v d) : Dq K H' v d := by
  refine Dq.rec (motive_1 := fun v d _ => Dq K H' v d) (motive_2 := fun vs ds _ => DqAll K H' vs ds) ?_ ?_ ?_ ?_ ?_ ?_ ?_ ?_ ?_ h
  · exact .nonq
  · intro b; exact .blq b
  · intro i; exact .intq i
  · intro x; exact .strq x
  · intro a xs ds hs hne _ ih; exact .lstq (e.seq hs) hne ih
  · intro a xs ds hs _ ih; exact .tupq (Same.tup e hs) ih
  · intro a kvs des he hk _ ih; exact .dctq (e _ _ he) hk ih
  · exact .nil
  · intro v vs d ds _ _ h1 h2; exact .cons h1 h2
theorem DqAll.same {K : PySem.W.Frag} {H H' : Hp} (e : Same H H') : ∀ {vs : List V} {ds : List PyData}, DqAll K H vs ds → DqAll K H' vs ds
  | _, _, .nil => .nil
  | _, _, .cons a b => .cons (Dq.same e a) (DqAll.same e b)
/-! ### repr -/
def rReprQ (K : PySem.W.Frag) : List V → Hp → VK → Prop := fun xs H Q => ∃ (x : V) (d : PyData), xs = [x] ∧ Dq K H x d ∧ d.showable = true ∧ d.depth ≤ 60 ∧ d.shown.length ≤ sizeLine ∧ Q (.str d.shown) H
theorem call_reprQ {X : Cx} (hgd : X.A.guards = some []) (hu : X.A.units + 64 < cLine) : CallR X (.builtin "repr") (rReprQ X.K) := by
  intro pins s σ H xs us Q I r h
  obtain ⟨x, d, rfl, hd, hs, hdep, hz, q⟩ := h
  obtain ⟨u, rfl, rx⟩ := vals1 r
  obtain ⟨as, rd, nsys⟩ := Dq.reads I hd u rx
  have fin : ∀ (h' : Heap) (v tk : Tok), (∀ b o, s.heap.get? b = some o → h'.get? b = some o) → EP X pins σ Q (.str d.shown v) { s with heap := h', toks := tk } := fun h' v tk hk => ⟨.str d.shown, H, I.kept hk, ⟨_, rfl⟩, q⟩
  cases rd with
  | none => exact PySem.P.repr_of_none (fin _ _ _ fun _ _ e => e)
  | bool b =>
    refine PySem.P.repr_of_bool ?_
    cases b <;> exact fin s.heap s.toks (s.toks + 1) fun _ _ e => e
  | int i t => exact PySem.P.repr_of_int (by simpa [PyData.showable] using hs) (fin s.heap s.toks (s.toks + 1) fun _ _ e => e)
  | str y t => exact PySem.P.repr_of_str (fin s.heap s.toks (s.toks + 1) fun _ _ e => e) hz
  | list h1 h2 h3 h4 => exact repr_of_reads' (.list h1 h2 h3 h4) hs (fun _ => nsys) hgd (by omega) (fun _ _ e => e) fin hz
  | tuple h1 h2 h3 h4 => exact repr_of_reads' (.tuple h1 h2 h3 h4) hs (fun _ => nsys) hgd (by omega) (fun _ _ e => e) fin hz
  | dict h1 h2 h3 h4 h5 => exact repr_of_reads' (.dict h1 h2 h3 h4 h5) hs (fun _ => nsys) hgd (by omega) (fun _ _ e => e) fin hz
theorem k_reprQ {X : Cx} {K : PySem.W.Frag} (e : X.K = K) (hgd : X.A.guards = some []) (hu : X.A.units + 64 < cLine) : CallR X (.builtin "repr") (rReprQ K) := by
  rw [← e]; exact call_reprQ hgd hu
end MB

set_option maxHeartbeats 4000000
namespace MB
open PySem PySem.Spec PyProof.Rows L2

/-! ### f(p = v), no value by position -/
def gK {α : Type} (us ws : List α) : List α := match us with
  | [] => ws
  | _ :: _ => []
section
variable {X : Cx} {CX : CXT} {k : Nat} {f : Addr} {fd : FuncData} {ps ks : List Str} {sp : Sp} {E : XK} {x : Str} {p pos : Pos} {kws : List Keyword} {tk : TA} {g : List Value → List Value → List Value} {gV : List V → List V → List V}
theorem pe_callK0 (F : FnOk X.prog X.w X.K X.mg X.base CX k f fd ps sp) (hr : Room k X.A) (hg : Gl X x) (hm : X.mg x = some (.ref f)) (hk : PySem.W.keepIn X.K (.ref f) = true) (hb : KBinds X.K fd ps ks g gV) (hx : Passes CX X E)
    (hkw : PK X kws tk) (hall : (backToKw pos (keywordEach kws X.env)).all (·.1.isSome) = true := by rfl) (hks : (backToKw pos (keywordEach kws X.env)).filterMap (·.1) = ks := by rfl)
    (hdb : (x == ("__debug__" : Str)) = false := by decide)
    (hpl : ((backTo pos (starEach [] X.env)).any (·.1) || (backToKw pos (keywordEach kws X.env)).any (·.1.isNone)) = false := by rfl) :
    PE X (.Call (.Name x p) [] kws pos) (tCallK sp gV E tNil tk) := by
  refine ⟨fun pins s σ H Q I h => ?_⟩
  refine wpAny_Call_Name_kw (ld_glob I hg hm ?_ hdb)
  refine PySem.W.callWith_KW0 (h₀ := X.base) I.ok.mod.kin hk hall ?_ hpl
  refine thn (hkw.run pos pins s σ H _ I h) fun ws s2 ⟨zs, H2, I2, rz, q2⟩ => ⟨I2.kIn, ?_⟩
  rw [hks]
  exact run_fnk (us := []) (vs := []) F hr hb hx I2 .nil rz q2
end
theorem kb1 {K : PySem.W.Frag} {x qual : Str} {st : Stmt} {f : Addr} {fd : FuncData} {q : Str} (F : L2.Fun K x qual st f fd)
    (h : ∀ (kV doc pm : Value) (an : Option Addr) (cdv ct u : Value), bindArgs (PySem.W.fnOf x qual (defArgs st) (defBody st) (defScope st) .none kV doc pm an cdv ct) ⟨[], [(q, u)]⟩ = pure [(q, u)]) : KBinds K fd [q] [q] gK gK := by
  obtain ⟨oc, od, kV, doc, pm, an, cdv, ct, osl, rfl, lk, hcd⟩ := F.ex
  refine ⟨fun s us ws _ hl => ?_, fun {vs us zs ws} r1 r2 => ?_⟩
  · cases us with
    | cons u us => exact nomatch hl
    | nil =>
      match ws, hl with
      | [u], _ => exact .of_eq (h kV doc pm an cdv ct u)
  · cases r1 with
    | nil => exact r2
    | cons _ _ => exact .nil

/-! ### a comprehension with a test -/
theorem lc_sel {K : PySem.W.Frag} {J : It} {n : Nat} {G : Hp → Prop} {Y : Nat → Hp → V → Hp → Prop} (w : Walk J n G Y) {g : TG} {tt : TT} {te : TE} {vs : List Nat} {σ : L2.St} {H1 : Hp} {D : Addr} {Qd : Hp → Prop}
    (f : Nat → Bool) (d : Nat → PyData) (ht : ∀ i, i < n → Tf (d i)) (hn : n ≤ 1000) (hD : H1 D = none) (hG : ∀ H, Same H1 H → G H)
    (hs : ∀ i x H H', i < n → Same H1 H → Y i H x H' → ∀ R : V → Hp → Prop, (∀ y H4, Same H H4 → Dp K H4 y (d i) → R y H4) →
      g x (wipe σ vs) H' fun σ2 H2 => wipe σ2 vs = wipe σ vs ∧ tt σ2 H2 fun b H3 => b = f i ∧ Same H H3 ∧ (b = true → te σ2 H3 R))
    (hd : ∀ H acc, Same H1 H → H D = some (.lst acc) → DpAll K H acc (((List.range n).filter f).map d) → Qd H)
    (mg : ∀ x σ' H' (Q Q' : L2.St → Hp → Prop), (∀ a b, Q a b → Q' a b) → g x σ' H' Q → g x σ' H' Q') (mt : ∀ σ' H' (Q Q' : Bool → Hp → Prop), (∀ a b, Q a b → Q' a b) → tt σ' H' Q → tt σ' H' Q') :
    ∃ W : Nat → Nat → Hp → Prop, (∃ m, W 0 m (upd H1 D (.lst []))) ∧ ∀ i m H, W i m H →
      (J.stop i H ∧ Qd H) ∨ (J.go i H ∧ ∃ Nx : Hp → Prop, (∀ H', Nx H' → ∃ m', m' < m ∧ W (i + 1) m' H') ∧ ∀ x H', J.yld i H x H' → g x (wipe σ vs) H' fun σ2 H2 => wipe σ2 vs = wipe σ vs ∧ tt σ2 H2 fun b H3 =>
        if b = true then te σ2 H3 fun y H4 => ∃ acc, H4 D = some (.lst acc) ∧ acc.length < sizeLine ∧ Nx (upd H4 D (.lst (acc ++ [y]))) else Nx H3) := by
  refine lc_it w (fun i H => Same H1 H ∧ ∃ acc, H D = some (.lst acc) ∧ DpAll K H acc (((List.range i).filter f).map d)) ⟨same_upd hD, [], upd_same, .nil⟩ (fun i H _ h => hG H h.1) ?_ ?_
  · rintro i x H H' hi ⟨s1, acc, ha, hA⟩ hy
    have hlen := DpAll.len hA
    have hle : acc.length ≤ i := by
      rw [hlen, List.length_map]
      have := List.length_filter_le f (List.range i)
      rw [List.length_range] at this
      exact this
    refine mg _ _ _ _ _ ?_ (hs i x H H' hi s1 hy (fun y H4 => ∃ acc, H4 D = some (.lst acc) ∧ acc.length < sizeLine ∧ (f i = true → Same H1 (upd H4 D (.lst (acc ++ [y]))) ∧ ∃ acc', (upd H4 D (.lst (acc ++ [y]))) D = some (.lst acc') ∧ DpAll K (upd H4 D (.lst (acc ++ [y]))) acc' (((List.range (i + 1)).filter f).map d))) ?_)
    · rintro σ2 H2 ⟨h1, h2⟩
      refine ⟨h1, mt _ _ _ _ ?_ h2⟩
      rintro b H3 ⟨hb, s3, h3⟩
      cases b with
      | true =>
        refine iteT ?_
        have h4 := h3 rfl
        have hb' := hb.symm
        simp only [hb', true_implies] at h4
        exact h4
      | false =>
        refine iteF ⟨s1.trans s3, acc, s3 _ _ ha, ?_⟩
        rw [List.range_succ, List.filter_append, List.map_append]
        have e : List.filter f [i] = [] := by rw [List.filter_cons, if_neg (by rw [← hb]; decide)]; rfl
        rw [e, List.map_nil, List.append_nil]
        exact DpAll.same s3 hA
    · intro y H4 s4 hy4
      refine ⟨acc, s4 _ _ ha, sz61 (by omega), fun hf => ⟨Same.mut (s1.trans s4) hD, acc ++ [y], upd_same, ?_⟩⟩
      have kp : Keep K H4 (upd H4 D (.lst (acc ++ [y]))) := But.keep But.upd (s4 _ _ ha)
      have e : List.filter f [i] = [i] := by rw [List.filter_cons, if_pos hf]; rfl
      rw [List.range_succ, List.filter_append, List.map_append, e]
      refine DpAll.keep kp (fun d' h => ?_) (DpAll.append (DpAll.same s4 hA) (.cons hy4 .nil))
      rcases List.mem_append.mp h with h | h
      · obtain ⟨j, hj, rfl⟩ := List.mem_map.mp h
        have := List.mem_range.mp (List.mem_filter.mp hj).1
        exact ht j (by omega)
      · have e : d' = d i := by simpa using h
        rw [e]; exact ht i hi
  · rintro H ⟨s1, acc, ha, hA⟩
    exact hd H acc s1 ha hA
end MB

set_option maxHeartbeats 4000000
namespace MB
open PySem PySem.Spec PyProof.Rows L2
/-! ### x *= e -/
theorem ip_mulW {X : Cx} : PIp X .Mult (fun x y H Q => ∃ i j, x = .int i ∧ y = .int j ∧ CMulW i j ∧ Q (.int (i * j)) H) := by
  intro pins s σ H x y v u Q I r1 r2 h
  obtain ⟨i, j, e1, e2, hc, q⟩ := h
  subst e1; subst e2
  obtain ⟨t, rfl⟩ := r1
  obtain ⟨t', rfl⟩ := r2
  exact imul_int ⟨.int _, H, I.tok _, ⟨_, rfl⟩, q⟩ hc.ok
/-! ### f(q = v, p = w): by keywords in any order -/
def gP {α : Type} (idx : List Nat) (us ws : List α) : List α := match us with
  | [] => idx.filterMap fun i => ws[i]?
  | _ :: _ => []
theorem gP_take {α : Type} {n : Nat} {ws : List α} : ∀ {idx : List Nat}, (∀ i, i ∈ idx → i < n) → (idx.filterMap fun i => (ws.take n)[i]?) = idx.filterMap fun i => ws[i]?
  | [], _ => rfl
  | i :: idx, h => by
    have h1 := h i (List.mem_cons_self ..)
    have h2 := gP_take (α := α) (n := n) (ws := ws) (idx := idx) fun j hj => h j (List.mem_cons_of_mem _ hj)
    rw [List.filterMap_cons, List.filterMap_cons, h2, List.getElem?_take, if_pos h1]
theorem gP_len {α : Type} {ws : List α} : ∀ {idx : List Nat}, (idx.filterMap fun i => ws[i]?).length = idx.length → ∀ i, i ∈ idx → i < ws.length
  | [], _, i, h => nomatch h
  | j :: idx, hl, i, h => by
    cases e : ws[j]? with
    | none =>
      simp only [List.filterMap_cons, e] at hl
      have := List.length_filterMap_le (fun i => ws[i]?) idx
      simp only [List.length_cons] at hl
      omega
    | some x =>
      simp only [List.filterMap_cons, e, List.length_cons, Nat.add_right_cancel_iff] at hl
      rcases List.mem_cons.mp h with h | h
      · subst h
        exact (List.getElem?_eq_some_iff.mp e).1
      · exact gP_len hl i h
theorem gP_rel {zs : List V} {ws : List Value} (r : Vals zs ws) : ∀ idx : List Nat, Vals (idx.filterMap fun i => zs[i]?) (idx.filterMap fun i => ws[i]?)
  | [] => .nil
  | i :: idx => by
    have ih := gP_rel r idx
    cases e : zs[i]? with
    | none =>
      have e2 : ws[i]? = none := List.getElem?_eq_none (by rw [← r.length]; exact List.getElem?_eq_none_iff.mp e)
      simp only [List.filterMap_cons, e, e2]; exact ih
    | some x =>
      obtain ⟨u, e2, ru⟩ := r.get e
      simp only [List.filterMap_cons, e, e2]; exact .cons ru ih
theorem zip_take {α β : Type} : ∀ (ks : List α) (ws : List β), ks.zip (ws.take ks.length) = ks.zip ws
  | [], _ => rfl
  | _ :: _, [] => rfl
  | k :: ks, w :: ws => by simp [zip_take ks ws]
theorem kbP {K : PySem.W.Frag} {x qual : Str} {st : Stmt} {f : Addr} {fd : FuncData} {ps ks : List Str} {idx : List Nat} (F : L2.Fun K x qual st f fd) (hi : idx.length = ps.length) (hk : ks.length = ps.length) (hp : 0 < ps.length)
    (hall : (∀ i, i ∈ idx → i < ps.length) ∧ ps.length - 1 ∈ idx)
    (h : ∀ (kV doc pm : Value) (an : Option Addr) (cdv ct : Value) (ws : List Value), ws.length = ps.length → bindArgs (PySem.W.fnOf x qual (defArgs st) (defBody st) (defScope st) .none kV doc pm an cdv ct) ⟨[], ks.zip ws⟩ = pure (ps.zip (gP idx [] ws))) : KBinds K fd ps ks (gP idx) (gP idx) := by
  obtain ⟨oc, od, kV, doc, pm, an, cdv, ct, osl, rfl, lk, hcd⟩ := F.ex
  refine ⟨fun s us ws _ hl => ?_, fun {vs us zs ws} r1 r2 => ?_⟩
  · cases us with
    | cons u us =>
      have : 0 = ps.length := hl
      omega
    | nil =>
      have hl' : (idx.filterMap fun i => ws[i]?).length = idx.length := by rw [hi]; exact hl
      have h2 := gP_len hl' _ hall.2
      have h3 := h kV doc pm an cdv ct (ws.take ps.length) (by rw [List.length_take]; omega)
      have e1 : gP idx [] (ws.take ps.length) = gP idx [] ws := gP_take hall.1
      have e2 : ks.zip (ws.take ps.length) = ks.zip ws := by
        rw [← hk]
        exact zip_take ks ws
      rw [e1, e2] at h3
      exact .of_eq h3
  · cases r1 with
    | nil => exact gP_rel r2 idx
    | cons _ _ => exact .nil
section
variable {X : Cx} {CX : CXT} {k : Nat} {f : Addr} {fd : FuncData} {ps ks : List Str} {sp : Sp} {E : XK} {x : Str} {p pos : Pos} {kws : List Keyword} {tk : TA} {g : List Value → List Value → List Value} {gV : List V → List V → List V}
end
end MB

set_option maxHeartbeats 4000000
namespace MB
open PySem PySem.Spec PyProof.Rows L2
def clsDef (s : Stmt) : Stmt := match s with
  | .ClassDef _ _ _ b _ _ _ _ _ _ _ => b.getD 0 (.Pass ⟨0, 0, 0, 0⟩)
  | t => t
/-! ### own exceptions as values -/
/-- at a: a caught exception, of the class cls, its dict at d -/
def KeO (a : Addr) (cls : Value) (d : Option Addr) : HO := .ext fun h => ∃ oe vs, h.get? a = some oe ∧ oe.cls = cls ∧ oe.dict = d ∧ oe.data = .fields vs
theorem keO_ok {P : Program} {w : World} {H : Hp} {h : Heap} {a : Addr} {cls : Value} {d : Option Addr} {oe : Obj} {vs : Array Value} (e : h.get? a = some oe) (hc : oe.cls = cls) (hd : oe.dict = d) (hf : oe.data = .fields vs) : ObjOk P w H h a (KeO a cls d) :=
  ⟨⟨oe, vs, e, hc, hd, hf⟩, ⟨oe, e⟩, fun h1 h2 ⟨o1, v1, q1, q2⟩ k => ⟨o1, v1, k _ q1, q2⟩⟩
/-- at a: an own exception of the class at C; with a dict that holds fs, or with none -/
inductive XAt (H : Hp) (a C : Addr) : Option (List (Str × V)) → Prop
  | full {d : Addr} {fs : List (Str × V)} : H a = some (exo a C (some d)) → H d = some (exd d fs) → XAt H a C (some fs)
  | bare : H a = some (ExO (.ref C) a) → XAt H a C none
  | kept {d : Addr} {fs : List (Str × V)} : H a = some (KeO a (.ref C) (some d)) → H d = some (exd d fs) → XAt H a C (some fs)
  | keptd {d : Addr} {fs : List (Str × V)} : H a = some (KeO a (.ref C) (some d)) → H d = some (.xd fs) → XAt H a C (some fs)
theorem XAt.same {H H' : Hp} {a C : Addr} {o : Option (List (Str × V))} (e : Same H H') (h : XAt H a C o) : XAt H' a C o := by
  cases h with
  | full h1 h2 => exact .full (e _ _ h1) (e _ _ h2)
  | bare h1 => exact .bare (e _ _ h1)
  | kept h1 h2 => exact .kept (e _ _ h1) (e _ _ h2)
  | keptd h1 h2 => exact .keptd (e _ _ h1) (e _ _ h2)
theorem keO_at {P : Program} {w : World} {H : Hp} {h : Heap} {a C : Addr} {d : Option Addr} (k : HOk P w H h) (e : H a = some (KeO a (.ref C) d)) : ∃ o vs, h.get? a = some o ∧ o.cls = .ref C ∧ o.dict = d ∧ o.data = .fields vs := by
  obtain ⟨⟨o, vs, q1, q2, q3, q4⟩, _⟩ := k a _ e
  exact ⟨o, vs, q1, q2, q3, q4⟩
section
variable {X : Cx} {pins : List (Addr × Obj)} {σ : L2.St} {H : Hp} {s : Shared}
/-- x.f -/
def tXv (K : PySem.W.Frag) (f : Str) (te : TE) : TE := fun σ H Q => te σ H fun x H1 => ∃ (a C : Addr) (fs : List (Str × V)) (v : V), x = .ref a ∧ XAt H1 a C (some fs) ∧ XfC K C ∧ PySem.W.findIn K (.ref C) f = some none ∧ fs.lookup f = some v ∧ Q v H1
theorem pe_xv {e : Expr} {te : TE} {pos : Pos} {n : Str} (he : PE X e te) (hb : attributeBase e n X.env (eval e X.env) = eval e X.env := by rfl) : PE X (.Attribute e n pos) (tXv X.K n te) := by
  refine ⟨fun pins s σ H Q I h => ?_⟩
  refine attr_of hb (thn (he.run pins s σ H _ I h) fun u s1 hh => ?_)
  obtain ⟨x, H1, I1, rx, a, C, fs, v, ex, hx, T, hno, l, q⟩ := hh
  subst ex
  obtain rfl : u = Value.ref a := rx
  cases hx with
  | @full d _ ea ed =>
    obtain ⟨t1, ho⟩ := exo_at I1.hok ea
    obtain ⟨mA, hns, hr⟩ := exd_at I1.hok ed
    obtain ⟨od, hod, hl⟩ := lookIn_ns hns
    obtain ⟨z, hz, rz⟩ := RelO.some_of (v := v) (o := mA n) (by rw [← l]; exact hr n)
    have J : PySem.W.InstAt s1.heap a _ C (some od) := ⟨ho, rfl, rfl, hod⟩
    exact HandSPX.exc_get I1.kIn J T.ga T.gg T.exC (PySem.W.findObj_own T.hdC hno rfl (by rw [hl, hz])) (handed_of rz) ⟨v, H1, I1.tok _, rz, q⟩
  | @kept d _ ea ed =>
    obtain ⟨o, vs, ho, hcl, hdc, hfd⟩ := keO_at I1.hok ea
    obtain ⟨mA, hns, hr⟩ := exd_at I1.hok ed
    obtain ⟨od, hod, hl⟩ := lookIn_ns hns
    obtain ⟨z, hz, rz⟩ := RelO.some_of (v := v) (o := mA n) (by rw [← l]; exact hr n)
    obtain ⟨oc, odc, oda, osl⟩ := o
    dsimp only at hcl hdc hfd
    subst hcl hdc hfd
    have J : PySem.W.InstAt s1.heap a _ C (some od) := ⟨ho, rfl, rfl, hod⟩
    exact HandSPX.exc_get I1.kIn J T.ga T.gg T.exC (PySem.W.findObj_own T.hdC hno rfl (by rw [hl, hz])) (handed_of rz) ⟨v, H1, I1.tok _, rz, q⟩
  | @keptd d _ ea ed =>
    obtain ⟨o, vs, ho, hcl, hdc, hfd⟩ := keO_at I1.hok ea
    obtain ⟨mA, hns, hr⟩ := (show ObjOk X.prog X.w H1 s1.heap d (.xd _) from I1.hok d _ ed)
    obtain ⟨od, hod, hl⟩ := lookIn_ns hns
    obtain ⟨z, hz, rz⟩ := RelO.some_of (v := v) (o := mA n) (by rw [← l]; exact hr n)
    obtain ⟨oc, odc, oda, osl⟩ := o
    dsimp only at hcl hdc hfd
    subst hcl hdc hfd
    have J : PySem.W.InstAt s1.heap a _ C (some od) := ⟨ho, rfl, rfl, hod⟩
    exact HandSPX.exc_get I1.kIn J T.ga T.gg T.exC (PySem.W.findObj_own T.hdC hno rfl (by rw [hl, hz])) (handed_of rz) ⟨v, H1, I1.tok _, rz, q⟩
/-- isinstance(x, c) -/
def rIsX (K : PySem.W.Frag) : List V → Hp → VK → Prop := fun xs H Q => ∃ (a C : Addr) (o : Option (List (Str × V))) (c : V) (u : Value) (b : Bool), xs = [.ref a, c] ∧ ClsV c u ∧ XAt H a C o ∧ ExcC K C ∧ PySem.W.kitOne K (.ref C) u = some b ∧ Q (.bl b) H
theorem call_isX : CallR X (.builtin "isinstance") (rIsX X.K) := by
  intro pins s σ H xs us Q I r h
  obtain ⟨a, C, o, c, u, b, rfl, k, hx, T, e, q⟩ := h
  obtain ⟨u1, u2, rfl, r1, r2⟩ := vals2 r
  have e2 := k.eq r2
  subst e2
  cases r1
  have hcl : (PySem.W.clsIn X.K C).isSome = true := by
    obtain ⟨cd, hc, _⟩ := PySem.W.any_some T.hd
    rw [hc]; rfl
  have fin : ∀ tk, EP X pins σ Q (.bool b) { s with toks := tk } := fun tk => ⟨.bl b, H, I.tok tk, rfl, q⟩
  cases hx with
  | @full d fs ea ed =>
    obtain ⟨t1, ho⟩ := exo_at I.hok ea
    obtain ⟨mA, hns, hr⟩ := exd_at I.hok ed
    obtain ⟨od, hod, hl⟩ := lookIn_ns hns
    have J : PySem.W.InstAt s.heap a _ C (some od) := ⟨ho, rfl, rfl, hod⟩
    exact PySem.W.kia_one (PySem.W.kitx_exc hcl T.hg T.hk T.hs T.ha T.hn T.ht T.hm) I.kIn J e (fun z => nomatch z) fin
  | @kept d fs ea ed =>
    obtain ⟨o, vs, ho, hc1, hdc, hfd⟩ := keO_at I.hok ea
    obtain ⟨mA, hns, hr⟩ := exd_at I.hok ed
    obtain ⟨od, hod, hl⟩ := lookIn_ns hns
    obtain ⟨oc, odc, oda, osl⟩ := o
    dsimp only at hc1 hdc hfd
    subst hc1 hdc hfd
    have J : PySem.W.InstAt s.heap a _ C (some od) := ⟨ho, rfl, rfl, hod⟩
    exact PySem.W.kia_one (PySem.W.kitx_exc hcl T.hg T.hk T.hs T.ha T.hn T.ht T.hm) I.kIn J e (fun z => nomatch z) fin
  | @keptd d fs ea ed =>
    obtain ⟨o, vs, ho, hc1, hdc, hfd⟩ := keO_at I.hok ea
    obtain ⟨mA, hns, hr⟩ := (show ObjOk X.prog X.w H s.heap d (.xd fs) from I.hok d _ ed)
    obtain ⟨od, hod, hl⟩ := lookIn_ns hns
    obtain ⟨oc, odc, oda, osl⟩ := o
    dsimp only at hc1 hdc hfd
    subst hc1 hdc hfd
    have J : PySem.W.InstAt s.heap a _ C (some od) := ⟨ho, rfl, rfl, hod⟩
    exact PySem.W.kia_one (PySem.W.kitx_exc hcl T.hg T.hk T.hs T.ha T.hn T.ht T.hm) I.kIn J e (fun z => nomatch z) fin
  | bare ea =>
    obtain ⟨⟨oe, vs, ho, hz, hd, _⟩, _⟩ := I.hok a _ ea
    have J : PySem.W.InstAt s.heap a oe C none := by
      obtain ⟨oc, od, oda, osl⟩ := oe
      obtain ⟨z1, z2⟩ := hz
      dsimp only at z1 z2 hd
      subst z1 z2 hd
      exact ⟨ho, rfl, rfl, trivial⟩
    exact PySem.W.kia_one (PySem.W.kitx_exc hcl T.hg T.hk T.hs T.ha T.hn T.ht T.hm) I.kIn J e (fun z => nomatch z) fin
/-- C(e), the class's own __init__ keeping sp: the object stands -/
def tMkX (C : Addr) (sp : Sp) (ta : TA) : TE := fun σ H Q => ta σ H fun vs H1 => vs.length ≤ 1000 ∧ ∀ a, H1 a = none → sp (.ref a :: vs) (upd H1 a (exo a C none)) (fun v H2 => v = .non ∧ Q (.ref a) H2) E0
theorem pe_mkX {x : Str} {C fI : Addr} {k : Nat} {fd : FuncData} {ps : List Str} {sp : Sp} {e : Expr} {es : List Expr} {ta : TA} {p pos : Pos} (T : OexC X.K C) (iC : PySem.W.findIn X.K (.ref C) "__init__" = some (some (.ref fI))) (tI : PySem.W.typeIn X.K (.ref fI) = some (.type "function"))
    (F1 : FnOk X.prog X.w X.K X.mg X.base CX0 k fI fd ps sp) (hr : Room (k + 1) X.A) (hb : Binds X.K fd ps []) (hg : Gl X x) (hm : X.mg x = some (.ref C)) (ha : PA X (e :: es) ta) (hx : Passes CX0 X E0)
    (hdb : (x == ("__debug__" : Str)) = false := by decide) (he : starEach (e :: es) X.env = (false, eval e X.env) :: starEach es X.env := by rfl) (hpl : (backTo pos (starEach es X.env)).any (·.1) = false := by rfl) :
    PE X (.Call (.Name x p) (e :: es) [] pos) (tMkX C sp ta) := by
  refine ⟨fun pins s σ H Q I h => ?_⟩
  obtain ⟨nm, qn, N, bs, bm, sn, sub, ab, col, dd, k0, k1, k2, k3, k5, hC, hbm⟩ := T.cls
  refine wpAny_Call_Name_kw (ld_glob I hg hm ?_ hdb)
  refine PySem.W.callWith_K (h₀ := X.base) I.ok.mod.kin T.kC (thn (ha.run pos pins s σ H _ I h) fun us s1 ⟨vs, H1, I1, r1, hz, q1⟩ => ⟨I1.kIn, ?_⟩) he hpl
  show wpAny _ _ (call (.ref C) us) _ _ _
  obtain ⟨hp, gs, dr, tk, os⟩ := s1
  have fresh : H1 (hp.objs.size + 1) = none := I1.hok.fresh (Nat.le_succ _)
  have hq := q1 _ fresh
  have there : ((hp.push (PySem.W.kdv_tup us)).push (PySem.HandSPX.excO C hp.objs.size)).get? (hp.objs.size + 1) = some (PySem.HandSPX.excO C hp.objs.size) := by heap_get
  have J : Inv X pins σ (upd H1 (hp.objs.size + 1) (exo (hp.objs.size + 1) C none)) ⟨(hp.push (PySem.W.kdv_tup us)).push (PySem.HandSPX.excO C hp.objs.size), gs, dr, tk, os⟩ :=
    I1.laid (t' := tk) (fun b o z => Heap.get?_push_of_some _ (Heap.get?_push_of_some _ z)) (Nat.le_succ _) (exo_ok there)
  have r2 : Vals (V.ref (hp.objs.size + 1) :: vs) (Value.ref (hp.objs.size + 1) :: us) := .cons rfl r1
  have hl : (Value.ref (hp.objs.size + 1) :: us).length = ps.length := r2.length.symm.trans (F1.len _ _ _ _ hq)
  have hus : us.length ≤ sizeLine := by rw [← Paired.length r1, sizeLine_eq]; omega
  have bnd := hb ⟨(hp.push (PySem.W.kdv_tup us)).push (PySem.HandSPX.excO C hp.objs.size), gs, dr, tk, os⟩ (Value.ref (hp.objs.size + 1) :: us) J.kIn (by rw [List.append_nil]; exact hl)
  rw [List.append_nil] at bnd
  refine wpAny_call (PySem.HandSPX.call_own F.excBase_ValueError (fun Y => PySem.HandSPX.refsVE_contains Y bm hbm) (I1.kIn _ _ hC) (PySem.W.looks_findIn I1.kIn iC) (fun self => PySem.W.bind_fn I1.kIn self tI) hus
    (codeAny_mono (F1.run _ X.stack _ _ ⟨Value.ref (hp.objs.size + 1) :: us, []⟩ (Value.ref (hp.objs.size + 1) :: us) _ _ E0 (hr.make C us []) (J.env0.make C us []) bnd r2 hq) fun res s' back => ?_))
  rcases res with er | fl
  · exact hx pins σ _ _ er s' J back
  · rcases fl with _ | _ | _ | u
    · exact False.elim back
    · exact False.elim back
    · exact False.elim back
    · obtain ⟨v, H2, J2, rv, ev, q2⟩ := J.after back
      subst ev
      exact ⟨rv, ⟨V.ref (hp.objs.size + 1), H2, J2, rfl, q2⟩⟩
/-- C(), a class without own __init__ -/
theorem pe_exc0 {C : Addr} {bmB : List Value} {B newId initId : String} {x : Str} {p pos : Pos} (F : ExcBaseFacts B newId initId bmB) (hi : PySem.W.excIn X.K C bmB newId = true) (gC : X.mg x = some (.ref C)) (kC : PySem.W.keepIn X.K (.ref C) = true) (hg : Gl X x) (hdb : (x == ("__debug__" : Str)) = false := by decide) :
    PE X (.Call (.Name x p) [] [] pos) (fun _ H Q => ∀ a, H a = none → Q (.ref a) (upd H a (ExO (.ref C) a))) := by
  refine ⟨fun pins s σ H Q I h => ?_⟩
  refine wpAny_Call_Name_kw (ld_glob I hg gC ?_ hdb)
  refine PySem.W.callWith_K0 I.kIn kC ?_
  show wpAny _ _ (call (.ref C) []) _ _ _
  obtain ⟨bm, N, nm, qn, bs, hdct, sn, sub, ab, col, dd, k0, k1, k2, k3, k5, mN, hC, hN, hni, T⟩ := exc_obj I.kIn hi
  refine wpAny_call_exc_subT F T hC hN hni (fun h' a hm => ?_) (by show 0 ≤ sizeLine; exact Nat.zero_le _)
  have gone : H a = none := I.hok.gone hm.new
  obtain ⟨t, ht, _, _⟩ := hm.there
  exact ⟨.ref a, upd H a (ExO (.ref C) a), I.laidN hm.keeps hm.new gone (exO_ok ht ⟨rfl, rfl⟩ rfl rfl rfl (by simp)), rfl, h a gone⟩
/-- self.value = value, the whole of an __init__ -/
def sp_init (K : PySem.W.Frag) (C : Addr) (f : Str) : Sp := fun vs H Q _ => ∃ (a : Addr) (y : V), vs = [.ref a, y] ∧ H a = some (exo a C none) ∧ ∀ dx, H dx = none → dx ≠ a → Q .non (upd (upd H dx (exd dx [(f, y)])) a (exo a C (some dx)))
/-- C(e) read by what stands behind it -/
theorem mkX_read {K : PySem.W.Frag} {C : Addr} {f : Str} {ta : TA} {σ : L2.St} {H : Hp} {Q : VK} (h : ta σ H fun vs H1 => ∃ y, vs = [y] ∧ ∀ a H2, Same H1 H2 → H1 a = none → XAt H2 a C (some [(f, y)]) → Q (.ref a) H2)
    (mono : ∀ (R R' : List V → Hp → Prop), (∀ vs H1, R vs H1 → R' vs H1) → ta σ H R → ta σ H R') : tMkX C (sp_init K C f) ta σ H Q := by
  refine mono _ _ ?_ h
  rintro vs H1 ⟨y, rfl, q⟩
  refine ⟨by simp, fun a na => ⟨a, y, rfl, upd_same, fun dx ndx ne => ⟨rfl, q a _ ?_ na (.full upd_same ?_)⟩⟩⟩
  · intro b o eb
    have h1 : b ≠ a := ne_of_none eb na
    have h2 : (upd H1 a (exo a C none)) b = some o := by rw [upd_ne h1]; exact eb
    rw [upd_ne h1, upd_ne (ne_of_none h2 ndx), upd_ne h1]
    exact eb
  · rw [upd_ne ne]; exact upd_same
end
end MB

set_option maxHeartbeats 4000000
namespace MB
open PySem PySem.Spec PyProof.Rows L2
/-- the thing at sysModules, tracked as it stands: a new thing then stands elsewhere -/
def sysO (oY : Obj) : HO := .frz oY (.ext fun h => h.get? sysModules = some oY)
theorem law_callS {P : Program} {w : World} {K : PySem.W.Frag} {mg mb : Str → Option Value} {k : Nat} {fa a : Addr} {fd : FuncData} {x : Str} {sp : Sp} {s₁ : Shared} {vs : List Value} {ns : List Int} {oY : Obj}
    (hKs : K.lookup sysModules = none) (hsy : s₁.heap.get? sysModules = some oY) (hna : a ≠ sysModules) (KX : K.In s₁.heap) (hns : s₁.heap.Ns mainGlobals mg) (hb : s₁.heap.Ns builtinsNs mb)
    (hbb : ∀ x : Str, x ≠ "__name__" → mb x = bootBuiltins x) (hlim : s₁.heap.NoLimit) (hg : s₁.gens = #[])
    (ha : s₁.heap.get? a = some { cls := .type "list", data := .seq vs.toArray }) (hi : IntsAre vs ns) (hl : ns.length ≤ sizeLine) (hr : Room k callerA)
    (F : ∀ base : Heap, K.In base → base.Ns mainGlobals mg → FnG P w K mg base CX0 k fa fd [x] sp) (hbind : ∀ (s : Shared) (u : Value), BindsTo s fd ⟨[u], []⟩ [(x, u)])
    (hsp : ∀ (H : Hp) (o : HO), SqL K H a (ns.map V.int) → H sysModules = some o → sp [.ref a] H (fun v _ => v = .bl true) fun _ _ _ => False) :
    codeAny (model P w) callerA (.call (.ref fa) ⟨[.ref a], []⟩) (fun r s' => r = .ok (.ret (.bool true)) ∧ OldK s₁.heap s'.heap ∧ s'.os = s₁.os ∧ AllBare s'.gens) s₁ := by
  let oS : Obj := { cls := .type "list", data := .seq vs.toArray }
  let H : Hp := fun b => if b = a ∧ K.lookup a = none then some (.frz oS (.lst (ns.map V.int))) else if b = sysModules then some (sysO oY) else none
  have Ha : K.lookup a = none → H a = some (.frz oS (.lst (ns.map V.int))) := fun hk => if_pos ⟨rfl, hk⟩
  have Hy : H sysModules = some (sysO oY) := (if_neg fun z => hna z.1.symm).trans (if_pos rfl)
  have rv := vals_ints hi
  have Hsome : ∀ {b : Addr} {o : HO}, H b = some o → (b = a ∧ o = .frz oS (.lst (ns.map V.int))) ∨ (b = sysModules ∧ o = sysO oY) := fun {b o} e => by
    by_cases c : b = a ∧ K.lookup a = none
    · have e' := (if_pos c).symm.trans e
      exact .inl ⟨c.1, (Option.some.inj e').symm⟩
    · by_cases c2 : b = sysModules
      · rw [c2, Hy] at e; exact .inr ⟨c2, (Option.some.inj e).symm⟩
      · have e' : H b = none := (if_neg c).trans (if_neg c2)
        rw [e'] at e; cases e
  have hfree : ∀ {b : Addr}, (b = a → K.lookup a ≠ none) → b ≠ sysModules → H b = none := fun {b} c c2 => (if_neg fun z => c z.1 z.2).trans (if_neg c2)
  have hS : SqL K H a (ns.map V.int) := by
    cases hk : K.lookup a with
    | none => exact .inl (.inr ⟨oS, Ha hk⟩)
    | some o =>
      have e := (KX a o hk).symm.trans ha
      cases e
      exact .inr ⟨_, vs.toArray, _, hk, rfl, rfl, rfl, by rw [List.size_toArray, hi.length]; exact hl, by simpa using rv⟩
  have hok : HOk P w H s₁.heap := fun b o e => by
    rcases Hsome e with ⟨rfl, rfl⟩ | ⟨rfl, rfl⟩
    · exact ⟨ha, by rw [List.length_map]; exact hl, vs, _, rv, ha⟩
    · exact ⟨hsy, hsy, ⟨_, hsy⟩, fun h1 h2 z kk => kk _ z⟩
  have notA : ∀ {b : Addr} {m : Str → Option Value}, s₁.heap.Ns b m → b ≠ a := fun {b m} ⟨o, es, ep, e, d, r⟩ z => by
    rw [z, ha] at e; cases e; cases d
  have ns_hid : ∀ {b : Addr} {m : Str → Option Value}, b ≠ sysModules → s₁.heap.Ns b m → (hidT s₁.heap H).Ns b m := fun {b m} hb x => by
    have h1 := notA x
    obtain ⟨o, es, ep, e, d, r⟩ := x
    exact ⟨o, es, ep, hidT_get e (hfree (fun z => absurd z h1) hb), d, r⟩
  have hKb : K.In (hidT s₁.heap H) := fun b o e => hidT_get (KX b o e) (hfree (fun z => by rw [z] at e; rw [e]; exact fun y => nomatch y) (fun z => by rw [z, hKs] at e; cases e))
  have hM : Mod K mg (hidT s₁.heap H) := ⟨hKb, ns_hid (by decide) hns, ⟨mb, ns_hid (by decide) hb, hbb⟩, let ⟨mc, h1, h2⟩ := hlim; ⟨mc, ns_hid (by decide) h1, h2⟩⟩
  have e0 : Env0 P w K mg (hidT s₁.heap H) callerA [] s₁ H := ⟨rfl, hM, fun b o e => of_hidT e, Nat.le_of_eq (hidT_size _ _), trivial, (fun b hb => absurd (show b ∈ ([] : List Addr) from hb) (by simp)), hok, .of_eq hg⟩
  refine codeAny_mono ((F _ hKb (ns_hid (by decide) hns)).run callerA rfl hr [] s₁ H ⟨[.ref a], []⟩ [.ref a] [.ref a] _ _ e0 (hbind s₁ (.ref a)) (.cons rfl .nil) (hsp H _ hS Hy)) fun r s' h => ?_
  rcases r with e | fl
  · exact False.elim h
  rcases fl with _ | _ | _ | u
  · exact False.elim h
  · exact False.elim h
  · exact False.elim h
  obtain ⟨v, H', os, bare, un, hok', r', q⟩ := h
  have q' : v = .bl true := q
  subst q'
  obtain rfl : u = Value.bool true := r'
  refine ⟨rfl, OldK.of_keep fun b o e => ?_, os, bare⟩
  cases hb' : H b with
  | none => exact un.keep b o e hb' (fun z => absurd (show b ∈ ([] : List Addr) from z) (by simp)) (by simp)
  | some u =>
    rcases Hsome hb' with ⟨rfl, rfl⟩ | ⟨rfl, rfl⟩
    · have e2 := (hok' _ _ (un.frzs _ oS _ hb')).1
      rw [ha] at e
      cases e
      exact e2
    · have e2 := (hok' _ _ (un.frzs _ oY _ hb')).1
      rw [hsy] at e
      cases e
      exact e2
theorem walk_ofS {l : PySem.W.OpenLaw} {n k : Nat} {q : Program} {loose : List Str} {XP : (Str → Option Value) → Heap → Prop} {YP : World → Heap → Prop} {d : DefRec} {K : Params → PySem.W.Frag} {sp : PySem.W.Frag → Sp} {x : Str}
    (hn : l.most = some n) (hn2 : n ≤ sizeLine) (hdf : d.params.defaults = []) (hr : Room k callerA) (him : importsNone q = true) (hKs : ∀ p, (K p).lookup sysModules = none)
    (hY : ∀ (w : World) (h : Heap), YP w h → (K w.params).In h)
    (F : ∀ (w : World) (mg : Str → Option Value) (fa : Addr) (h : Heap), (K w.params).In h → h.Ns mainGlobals mg → mg d.name = some (.ref fa) →
      ∃ fd : FuncData, (∀ (s : Shared) (u : Value), BindsTo s fd ⟨[u], []⟩ [(x, u)]) ∧
        ∀ base : Heap, (K w.params).In base → base.Ns mainGlobals mg → FnG l.prog w (K w.params) mg base CX0 k fa fd [x] (sp (K w.params)))
    (hsp : ∀ (K : PySem.W.Frag) (H : Hp) (a : Addr) (ns : List Int) (o : HO), ns.length ≤ n → SqL K H a (ns.map V.int) → H sysModules = some o → sp K [.ref a] H (fun v _ => v = .bl true) fun _ _ _ => False) :
    PySem.W.WalkO q loose XP YP l.row.toRowW d [] (fun f vs => PySem.call f vs) :=
  Att.attach_call hn hdf fun w s₀ s₁ mg mb fa o pm cd doc a vs ns G Y ho hd hcd hmg hobj hints hlen hg =>
    have KX := hY w _ Y
    let ⟨fd, hb, hF⟩ := F w mg fa _ KX G.T.g hmg
    let ⟨mm, hmm, _⟩ := (G.T.seer him).mods
    let ⟨oY, es, ep, eY, dY, _⟩ := hmm
    law_callS (hKs w.params) eY (fun z => by rw [z, eY] at hobj; cases hobj; cases dY) KX G.T.g G.T.b G.T.builtins G.T.nolimit hg hobj hints (Nat.le_trans hlen hn2) hr hF hb fun H o hS hy => hsp _ H a ns o hlen hS hy
end MB

set_option maxHeartbeats 4000000
namespace MB
open PySem PySem.Spec PyProof.Rows L2
/-! ### facts of own exception classes, each as one truth value -/
def excB (K : PySem.W.Frag) (D : Addr) : Bool :=
  decide (PySem.W.findIn K (.ref D) "__getattribute__" = some (some (.builtin "BaseException.__getattribute__"))) && (decide (PySem.W.findIn K (.ref D) "__getattr__" = some none) && (decide (PySem.W.subIn K (.ref D) (.type "BaseException") = some true) && (PySem.W.hasDictIn K D &&
  (decide (PySem.W.findIn K (.ref D) "__class__" = some (some (.builtin "object.__class__"))) && (decide (PySem.W.specialIn K (.builtin "object.__class__") "__get__" = some (some (.builtin "getset_descriptor.__get__"))) && (decide (PySem.W.takesIn K (.builtin "object.__class__") = some true) && decide (PySem.W.mroIn K D (.type "object") = some true)))))))
theorem excB_ok {K : PySem.W.Frag} {D : Addr} (h : excB K D = true) : ExcC K D ∧ XfC K D := by
  unfold excB at h
  simp only [Bool.and_eq_true, decide_eq_true_eq] at h
  obtain ⟨h1, h2, h3, h4, h5, h6, h7, h8⟩ := h
  exact ⟨⟨h1, h2, h3, h4, h5, h6, h7, h8⟩, ⟨h1, h2, h3, h4⟩⟩
def oexB (K : PySem.W.Frag) (C fI : Addr) (f : Str) : Bool :=
  decide (PySem.W.findIn K (.ref C) "__setattr__" = some (some (.builtin "object.__setattr__"))) && (decide (PySem.W.subIn K (.ref C) (.type "BaseException") = some true) && (decide (PySem.W.typeIn K (.ref C) = some (.type "type")) && (PySem.W.keepIn K (.ref C) &&
  (decide (PySem.W.findIn K (.ref C) f = some none) && (decide (PySem.W.typeIn K (.ref fI) = some (.type "function")))))))
theorem oexB_ok {K : PySem.W.Frag} {C fI : Addr} {f : Str} (h : oexB K C fI f = true) : PySem.W.findIn K (.ref C) "__setattr__" = some (some (.builtin "object.__setattr__")) ∧ PySem.W.subIn K (.ref C) (.type "BaseException") = some true ∧ PySem.W.typeIn K (.ref C) = some (.type "type") ∧ PySem.W.keepIn K (.ref C) = true ∧ PySem.W.findIn K (.ref C) f = some none ∧ PySem.W.typeIn K (.ref fI) = some (.type "function") := by
  unfold oexB at h
  simpa only [Bool.and_eq_true, decide_eq_true_eq] using h
/-- each is an instance of itself alone among them, of the base m, and of ValueError -/
def kitB (K : PySem.W.Frag) (cs : List Addr) (m : Addr) : Bool :=
  cs.all fun c => (cs.all fun d => decide (PySem.W.kitOne K (.ref c) (.ref d) = some (c == d))) && (decide (PySem.W.kitOne K (.ref c) (.ref m) = some true) && decide (PySem.W.kitOne K (.ref c) (.type "ValueError") = some true))
theorem kitB_ok {K : PySem.W.Frag} {cs : List Addr} {m : Addr} (h : kitB K cs m = true) {c : Addr} (hc : c ∈ cs) : (∀ d, d ∈ cs → PySem.W.kitOne K (.ref c) (.ref d) = some (c == d)) ∧ PySem.W.kitOne K (.ref c) (.ref m) = some true ∧ PySem.W.kitOne K (.ref c) (.type "ValueError") = some true := by
  unfold kitB at h
  have h1 := List.all_eq_true.mp h c hc
  simp only [Bool.and_eq_true, decide_eq_true_eq, List.all_eq_true] at h1
  exact h1
def nodupB (cs : List Addr) : Bool := decide cs.Nodup

/-- the same from the lines of ancestors alone -/
def kitT (l : List (Addr × List Value)) (m : Addr) : Bool :=
  l.all fun c => !c.2.isEmpty && ((l.all fun d => decide ((c.1 = d.1 ∨ c.2.contains (.ref d.1) = false))) && (c.2.contains (.ref m) && c.2.contains (.type "ValueError")))
theorem kitOne_self {K : PySem.W.Frag} {v : Value} : PySem.W.kitOne K v v = some true := by
  unfold PySem.W.kitOne
  rw [if_pos (beq_self_eq_true v)]
theorem kitOne_ref {K : PySem.W.Frag} {c d : Addr} {cd dd : ClassData} (hn : c ≠ d) (h : PySem.W.clsIn K c = some cd) (he : cd.mro.isEmpty = false) (g : PySem.W.clsIn K d = some dd) (gt : PySem.W.typeIn K (.ref d) = some (.type "type")) :
    PySem.W.kitOne K (.ref c) (.ref d) = some (cd.mro.contains (.ref d)) := by
  unfold PySem.W.kitOne
  have e : ¬ ((Value.ref c == Value.ref d) = true) := fun z => by
    have z2 : Value.ref c = Value.ref d := beq_iff_eq.mp z
    cases z2; exact hn rfl
  rw [if_neg e]
  unfold PySem.W.kitCls
  dsimp only
  rw [g, gt, if_pos (by simp)]
  show PySem.W.mroIn K c (.ref d) = _
  unfold PySem.W.mroIn
  rw [h]
  show (if cd.mro.isEmpty = true then none else some (cd.mro.contains (.ref d))) = _
  rw [he]; rfl
theorem kitOne_ve {K : PySem.W.Frag} {c : Addr} {cd : ClassData} (h : PySem.W.clsIn K c = some cd) (he : cd.mro.isEmpty = false) :
    PySem.W.kitOne K (.ref c) (.type "ValueError") = some (cd.mro.contains (.type "ValueError")) := by
  unfold PySem.W.kitOne
  have e : ¬ ((Value.ref c == Value.type "ValueError") = true) := fun z => by
    have z2 : Value.ref c = Value.type "ValueError" := beq_iff_eq.mp z
    cases z2
  rw [if_neg e]
  unfold PySem.W.kitCls
  dsimp only
  rw [if_pos (by decide +kernel)]
  show PySem.W.mroIn K c (.type "ValueError") = _
  unfold PySem.W.mroIn
  rw [h]
  show (if cd.mro.isEmpty = true then none else some (cd.mro.contains (.type "ValueError"))) = _
  rw [he]; rfl
theorem kitB_mk {K : PySem.W.Frag} {m : Addr} {md : ClassData} (l : List (Addr × ClassData)) (h : ∀ p, p ∈ l → PySem.W.clsIn K p.1 = some p.2 ∧ PySem.W.typeIn K (.ref p.1) = some (.type "type"))
    (hm : PySem.W.clsIn K m = some md) (tm : PySem.W.typeIn K (.ref m) = some (.type "type")) (t : kitT (l.map fun p => (p.1, p.2.mro)) m = true) : kitB K (l.map (·.1)) m = true := by
  unfold kitB
  unfold kitT at t
  rw [List.all_eq_true] at t ⊢
  intro c hc
  obtain ⟨p, hp, rfl⟩ := List.mem_map.mp hc
  have tp := t _ (List.mem_map.mpr ⟨p, hp, rfl⟩)
  simp only [Bool.and_eq_true, decide_eq_true_eq, List.all_eq_true] at tp
  obtain ⟨t1, t2, t3, t4⟩ := tp
  have t1' : p.2.mro.isEmpty = false := by simpa using t1
  simp only [Bool.and_eq_true, decide_eq_true_eq, List.all_eq_true]
  refine ⟨fun d hd => ?_, ?_, ?_⟩
  · obtain ⟨q, hq, rfl⟩ := List.mem_map.mp hd
    by_cases z : p.1 = q.1
    · rw [z, kitOne_self]; simp
    · have := t2 _ (List.mem_map.mpr ⟨q, hq, rfl⟩)
      rcases this with e | e
      · exact absurd e z
      · rw [kitOne_ref z (h p hp).1 t1' (h q hq).1 (h q hq).2, e]
        have : (p.1 == q.1) = false := by simpa using z
        rw [this]
  · by_cases z : p.1 = m
    · rw [z, kitOne_self]
    · rw [kitOne_ref z (h p hp).1 t1' hm tm, t3]
  · rw [kitOne_ve (h p hp).1 t1', t4]
end MB

set_option maxHeartbeats 4000000
namespace MB
open PySem PySem.Spec PyProof.Rows L2
/-! ### a caught exception is kept: its object comes among what is tracked -/
theorem inv_adopt {X : Cx} {pins : List (Addr × Obj)} {σ : L2.St} {H : Hp} {s : Shared} {a : Addr} {o : HO} (I : Inv X pins σ H s)
    (na : H a = none) (n0 : a ∉ X.ex → X.s_0.heap.get? a = none) (nL : a ≠ X.env.locals) (nC : ∀ x c, X.env.cells.lookup x = some c → c ≠ a) (nP : ∀ p ∈ X.pn ++ pins, p.1 ≠ a)
    (new : ObjOk X.prog X.w (upd H a o) s.heap a o) : Inv X pins σ (upd H a o) s := by
  have ne : ∀ b u, H b = some u → b ≠ a := fun b u q z => by rw [z, na] at q; cases q
  have up : ∀ b u, H b = some u → upd H a o b = some u := fun b u q => by rw [upd_ne (ne b u q)]; exact q
  have no : ∀ b, b ≠ a → H b = none → upd H a o b = none := fun b z q => by rw [upd_ne z]; exact q
  have B := I.base
  refine ⟨I.ok, I.os, I.bare, ⟨B.keep, B.slot, fun b ob q n x => ?_, B.there, fun b xs q => up _ _ (B.tups b xs q), fun b ob u q => up _ _ (B.frzs b ob u q), fun b ps q => ?_⟩, I.loc, I.cell, no _ (Ne.symm nL) I.free, fun x c q => no _ (nC x c q) (I.freeC x c q), fun p hp => ?_, fun b u q => ?_, I.len⟩
  · refine no _ (fun z => ?_) (B.free b ob q n x)
    rw [z] at q x
    rw [n0 x] at q; cases q
  · obtain ⟨more, e⟩ := B.tbls b ps q
    exact ⟨more, up _ _ e⟩
  · obtain ⟨p1, p2, p3⟩ := I.pin p hp
    exact ⟨p1, no _ (nP p hp) p2, p3⟩
  · by_cases z : b = a
    · rw [z, upd_same] at q
      cases q
      rw [z]
      exact new
    · rw [upd_ne z] at q
      exact (I.hok b u q).stay (fun c v _ e => e) (fun c e => up c _ e) fun c _ e => up c _ e

/-- what the catch wishes: the class is one that is caught; behind the suite the error stays, tracked -/
def wKept (K : PySem.W.Frag) (c : Value) (i : Nat) (ts : Addr → Value → Option Addr → TS) (D : Ends) : WX := fun cls d σ H =>
  PySem.W.exmOne K cls c = some true ∧ ∀ a, H a = none →
    ts a cls d { nx := fun σ' H' => D.nx (σ'.set i none) (upd H' a (KeO a cls d)), rt := fun _ _ => False, bk := fun _ _ => False, ct := fun _ _ => False } (σ.set i (some (.ref a))) H
section
variable {X : Cx} {x n : Str} {c : Value} {i : Nat} {body more : List Stmt} {st : Stmt} {np pos pos' : Pos} {tb : WX → TS} {ts : Addr → Value → Option Addr → TS}
theorem ps_try_kept (hst : X.stack = X.env :: X.outer) (hfm : X.env.frame = some X.env.locals)
    (hN : X.N.Nodup) (hi : X.N[i]? = some n)
    (hln : X.env.kindOf n = some .local) (hc : Names X x c)
    (hb : ∀ (W : WX) (pn : List (Addr × Obj)) (xe : Value → Shared → Prop), Takes (X.tr pn xe) W →
      PassesOwn (model X.prog X.w) X.A X.env xe → PSs (X.tr pn xe) body (tb W))
    (hsu : ∀ (a : Addr) (oe : Obj) (cls : Value) (d : Option Addr) (pn : List (Addr × Obj)), Zc cls d oe →
      (∃ vs, oe.data = .fields vs) → PSs (X.suite a ((a, oe) :: pn)) (st :: more) (ts a cls d)) :
    PS X (.Try body [.ExceptHandler (some (.Name x np)) (some n) (st :: more) pos'] [] [] pos)
      (fun D σ H => tb (wKept X.K c i ts D) D σ H) := by
  refine ⟨fun pins s σ H D I h => ?_⟩
  have okX := I.ok
  have frm : X.A.frames = some (X.env :: X.outer) := by rw [okX.frames, hst]
  refine wpAny_Try_except (wpAny_mono ((hb (wKept X.K c i ts D) (X.pn ++ pins) _ (fun u s1 xx => ?_) PassesOwn.looking).run [] s σ H D (I.toTry _) h) (fun f s1 q => ?_) (fun e s1 q => q))
  · obtain ⟨a, B, sI, pins', σ1, H1, cls, d, rfl, Jt, nb, up, sky, na, os, ag, hyes, hts⟩ := xx
    have J : Inv X pins σ1 H1 sI := Jt.ofTry okX
    rw [show (X.tr (X.pn ++ pins) _).stack = X.env :: X.outer from hst] at sky
    show wpAny (model X.prog X.w) X.A (noteFrame (.ref a) X.env) _ _ _
    refine Sky.land Zc.steady frm hfm sky fun h2 fl up2 => ?_
    have J2 : Inv X pins σ1 H1 { s1 with heap := h2 } := J.landed nb fl.1 (up.trans up2) os ag
    have Bn : B.get? a = none := fl.2.1
    obtain ⟨o2, vs2, g2, z2, d2⟩ := fl.there
    have offF : a ∉ frs (X.env :: X.outer) := fun hm => by
      obtain ⟨_, o', e', hnf⟩ := fl.2.2.1.mem hm
      rw [g2] at e'; cases e'
      exact hnf _ d2
    have offL : a ≠ X.env.locals := fun z => offF (List.mem_filterMap.mpr ⟨X.env, List.mem_cons_self, by rw [hfm, z]⟩)
    have offO : a ∉ X.fs := fun hm => by
      obtain ⟨e, he, q⟩ := List.mem_filterMap.mp hm
      exact offF (List.mem_filterMap.mpr ⟨e, List.mem_cons_of_mem _ he, q⟩)
    have offI : ∀ o, sI.heap.get? a = some o → False := fun o e => by
      have := nb a o e (by show a ∉ frs X.stack; rw [hst]; exact offF)
      rw [Bn] at this; cases this
    have n0 : a ∉ X.ex → X.s_0.heap.get? a = none := fun hx => by
      cases e : X.s_0.heap.get? a with
      | none => rfl
      | some o =>
        obtain ⟨o', e'⟩ := J.base.there a o e hx
        exact (offI _ e').elim
    have nC : ∀ x c, X.env.cells.lookup x = some c → c ≠ a := fun x c e z => by
      obtain ⟨v, q⟩ := J.cell x c e
      rw [z] at q
      obtain ⟨o, q1, _⟩ := q
      exact offI _ q1
    have nP : ∀ p ∈ X.pn ++ pins, p.1 ≠ a := fun p hp z => by
      have q := (J.pin p hp).1
      rw [z] at q
      exact offI _ q
    have S2 := J2.suite g2 d2 na offL offO
    refine wpAny_handleBy_cons (codeAny_handlers_test ?_) (by intro q; cases q)
    have ty : PySem.W.Looks (model X.prog X.w) h2 (typeOf (.ref a)) cls := fun _ _ _ _ k q =>
      wpAny_typeOf_ref (k _ _ g2) (by rw [z2.1]; exact q)
    have look := PySem.W.exm_one (M := model X.prog X.w) J2.kIn ty hyes
    have nam : ∀ {Q E : Value → Shared → Prop}, Q c { s1 with heap := h2 } →
        wpAny (model X.prog X.w) (X.A.mark (some (.ref a))) (eval (.Name x np) X.env) Q E { s1 with heap := h2 } := fun {Q E} q => by
      rcases hc with ⟨hg, hdb, hm | ⟨hm, hv, hnn⟩⟩
      · exact ld_glob (X := X.suite a ((a, o2) :: (X.pn ++ pins))) S2 hg hm q hdb
      · exact ld_blt (X := X.suite a ((a, o2) :: (X.pn ++ pins))) S2 hg hm hv q hnn hdb
    refine nam (look.here (codeAny_handlers_suite_as (HandSPX.lands_againZ fl fun h3 fl3 up3 => ?_)))
    have J3 : Inv X pins σ1 H1 { s1 with heap := h3 } := J.landed nb fl3.1 ((up.trans up2).trans up3) os ag
    obtain ⟨o3, vs3, g3, z3, d3⟩ := fl3.there
    have S3 := J3.suite g3 d3 na offL offO
    refine store_ok (X := X.suite a ((a, o3) :: (X.pn ++ pins))) (v := .ref a) S3 hN hi (.inl hln) rfl (fun s4 S4 => ?_) (.inr hln)
    refine wpAny_mono ((hsu a o3 cls d (X.pn ++ pins) z3 ⟨_, d3⟩).run [] s4 _ H1 _ S4 (hts a na)) (fun f s5 q => ?_) (fun _ _ z => z.elim)
    cases f with
    | next =>
      obtain ⟨σ5, H5, S5, q5⟩ := q
      obtain ⟨g5, n5, _⟩ := S5.pin (a, o3) (by simp [Cx.suite])
      exact gone_ok (inv_adopt (S5.unsuite okX) n5 n0 offL nC nP (keO_ok g5 z3.1 z3.2 d3)) hN hi hln fun s6 J6 => ⟨_, _, J6, q5⟩
    | brk => obtain ⟨_, _, _, z⟩ := q; exact z.elim
    | cont => obtain ⟨_, _, _, z⟩ := q; exact z.elim
    | ret u => obtain ⟨_, _, _, _, _, z⟩ := q; exact z.elim
  · cases f with
    | next => obtain ⟨_, _, J, z⟩ := q; exact wpAny_execs_nil ⟨_, _, J.ofTry okX, z⟩
    | brk => obtain ⟨_, _, J, z⟩ := q; exact ⟨_, _, J.ofTry okX, z⟩
    | cont => obtain ⟨_, _, J, z⟩ := q; exact ⟨_, _, J.ofTry okX, z⟩
    | ret u => obtain ⟨_, _, _, J, r, z⟩ := q; exact ⟨_, _, _, J.ofTry okX, r, z⟩
end
end MB

set_option maxHeartbeats 4000000
namespace MB
open PySem PySem.Spec PyProof.Rows L2
/-- a law's call: no repr is under way, sysModules is tracked, and so are the tables ts of code objects (cs: code object and table) -/
theorem law_callT {P : Program} {w : World} {K : PySem.W.Frag} {mg mb : Str → Option Value} {k : Nat} {fa a : Addr} {fd : FuncData} {x : Str} {sp : Sp} {s₁ : Shared} {vs : List Value} {ns : List Int} {oY : Obj} {cs : List (Addr × Addr)}
    (hKs : K.lookup sysModules = none) (hsy : s₁.heap.get? sysModules = some oY) (hyT : ∀ p ∈ cs, p.2 ≠ sysModules) (hna : a ≠ sysModules) (KX : K.In s₁.heap) (hns : s₁.heap.Ns mainGlobals mg) (hb : s₁.heap.Ns builtinsNs mb)
    (hbb : ∀ x : Str, x ≠ "__name__" → mb x = bootBuiltins x) (hlim : s₁.heap.NoLimit) (hg : s₁.gens = #[])
    (hT : ∀ p ∈ cs, s₁.heap.get? p.2 = some { cls := .none, data := .fields #[] }) (nT : ∀ p ∈ cs, K.lookup p.2 = none) (hC : ∀ p ∈ cs, PySem.W.CodeHd s₁.heap p.1 p.2) (hCy : ∀ p ∈ cs, p.1 ≠ sysModules)
    (hbm : ∃ (bm : Addr) (ob : Obj), mg "__builtins__" = some (.ref bm) ∧ bm ≠ builtinsNs ∧ s₁.heap.get? bm = some ob ∧ ob.cls = .type "module" ∧ ob.dict = some builtinsNs ∧ ob.data = .plain)
    (hyd : ∃ es ep, oY.data = .dict es ep)
    (ha : s₁.heap.get? a = some { cls := .type "list", data := .seq vs.toArray }) (hi : IntsAre vs ns) (hl : ns.length ≤ sizeLine) (hr : Room k callerA)
    (F : ∀ base : Heap, K.In base → base.Ns mainGlobals mg → (∀ p ∈ cs, LamX.TabB base mg p.1 p.2) → FnG P w K mg base CX0 k fa fd [x] sp) (hbind : ∀ (s : Shared) (u : Value), BindsTo s fd ⟨[u], []⟩ [(x, u)])
    (hsp : ∀ (H : Hp) (o : HO), SqL K H a (ns.map V.int) → H sysModules = some o → (∀ ps, o ≠ .tbl ps) → (∀ p ∈ cs, H p.2 = some (.tbl #[])) → sp [.ref a] H (fun v _ => v = .bl true) fun _ _ _ => False) :
    codeAny (model P w) callerA (.call (.ref fa) ⟨[.ref a], []⟩) (fun r s' => r = .ok (.ret (.bool true)) ∧ OldK s₁.heap s'.heap ∧ s'.os = s₁.os ∧ AllBare s'.gens) s₁ := by
  let oS : Obj := { cls := .type "list", data := .seq vs.toArray }
  let H : Hp := fun b => if b = a ∧ K.lookup a = none then some (.frz oS (.lst (ns.map V.int))) else if b = sysModules then some (sysO oY) else if b ∈ cs.map (·.2) then some (.tbl #[]) else none
  have isT : ∀ b : Addr, b ∈ cs.map (·.2) → s₁.heap.get? b = some { cls := .none, data := .fields #[] } ∧ K.lookup b = none ∧ b ≠ sysModules := fun b hb => by
    obtain ⟨p, hp, rfl⟩ := List.mem_map.mp hb
    exact ⟨hT p hp, nT p hp, hyT p hp⟩
  have aT : a ∉ cs.map (·.2) := fun z => by
    have q := (isT a z).1
    rw [ha] at q
    cases q
  have Ha : K.lookup a = none → H a = some (.frz oS (.lst (ns.map V.int))) := fun hk => if_pos ⟨rfl, hk⟩
  have Hy : H sysModules = some (sysO oY) := (if_neg fun z => hna z.1.symm).trans (if_pos rfl)
  have Ht : ∀ b, b ∈ cs.map (·.2) → H b = some (.tbl #[]) := fun b hb => (if_neg fun z => aT (by rw [← z.1]; exact hb)).trans ((if_neg (isT b hb).2.2).trans (if_pos hb))
  have rv := vals_ints hi
  have Hsome : ∀ {b : Addr} {o : HO}, H b = some o → (b = a ∧ o = .frz oS (.lst (ns.map V.int))) ∨ (b = sysModules ∧ o = sysO oY) ∨ (b ∈ cs.map (·.2) ∧ o = .tbl #[]) := fun {b o} e => by
    by_cases c : b = a ∧ K.lookup a = none
    · have e' := (if_pos c).symm.trans e
      exact .inl ⟨c.1, (Option.some.inj e').symm⟩
    · by_cases c2 : b = sysModules
      · rw [c2, Hy] at e; exact .inr (.inl ⟨c2, (Option.some.inj e).symm⟩)
      · by_cases c3 : b ∈ cs.map (·.2)
        · rw [Ht b c3] at e; exact .inr (.inr ⟨c3, (Option.some.inj e).symm⟩)
        · have e' : H b = none := (if_neg c).trans ((if_neg c2).trans (if_neg c3))
          rw [e'] at e; cases e
  have hfree : ∀ {b : Addr}, (b = a → K.lookup a ≠ none) → b ≠ sysModules → b ∉ cs.map (·.2) → H b = none := fun {b} c c2 c3 => (if_neg fun z => c z.1 z.2).trans ((if_neg c2).trans (if_neg c3))
  have hS : SqL K H a (ns.map V.int) := by
    cases hk : K.lookup a with
    | none => exact .inl (.inr ⟨oS, Ha hk⟩)
    | some o =>
      have e := (KX a o hk).symm.trans ha
      cases e
      exact .inr ⟨_, vs.toArray, _, hk, rfl, rfl, rfl, by rw [List.size_toArray, hi.length]; exact hl, by simpa using rv⟩
  have hok : HOk P w H s₁.heap := fun b o e => by
    rcases Hsome e with ⟨rfl, rfl⟩ | ⟨rfl, rfl⟩ | ⟨h1, rfl⟩
    · exact ⟨ha, by rw [List.length_map]; exact hl, vs, _, rv, ha⟩
    · exact ⟨hsy, hsy, ⟨_, hsy⟩, fun h1 h2 z kk => kk _ z⟩
    · exact (isT b h1).1
  have noD : ∀ {b : Addr} {o : Obj}, s₁.heap.get? b = some o → b ≠ sysModules → (∀ us n, o.data ≠ .seq us n) → o.data ≠ .fields #[] → H b = none := fun {b o} e c h1 h2 => hfree (fun z => by
      rw [z, ha] at e
      cases e
      exact (h1 _ _ rfl).elim) c fun z => by
      rw [(isT b z).1] at e
      cases e
      exact h2 rfl
  have ns_hid : ∀ {b : Addr} {m : Str → Option Value}, b ≠ sysModules → s₁.heap.Ns b m → (hidT s₁.heap H).Ns b m := fun {b m} hb x => by
    obtain ⟨o, es, ep, e, d, r⟩ := x
    exact ⟨o, es, ep, hidT_get e (noD e hb (fun us n z => by rw [d] at z; cases z) fun z => by rw [d] at z; cases z), d, r⟩
  have hKb : K.In (hidT s₁.heap H) := fun b o e => hidT_get (KX b o e) (hfree (fun z => by rw [z] at e; rw [e]; exact fun y => nomatch y) (fun z => by rw [z, hKs] at e; cases e) fun z => by rw [(isT b z).2.1] at e; cases e)
  have hM : Mod K mg (hidT s₁.heap H) := ⟨hKb, ns_hid (by decide) hns, ⟨mb, ns_hid (by decide) hb, hbb⟩, let ⟨mc, h1, h2⟩ := hlim; ⟨mc, ns_hid (by decide) h1, h2⟩⟩
  have TB : ∀ p ∈ cs, LamX.TabB (hidT s₁.heap H) mg p.1 p.2 := fun p hp => by
    have hTp := hT p hp
    refine ⟨?_, ?_, fun z => ?_⟩
    · obtain ⟨o, us, file, tf, flags, tg, inF, text, tt, e1, r1, r2, r3, r4⟩ := hC p hp
      refine ⟨o, us, file, tf, flags, tg, inF, text, tt, hidT_get e1 (noD e1 (hCy p hp) (fun us' n z => ?_) fun z => ?_), r1, r2, r3, r4⟩
      · rw [r2] at z; cases z
      · rw [r2] at z; cases z; simp at r3
    · obtain ⟨bm, ob, b1, b2, b3, b4, b5, b6⟩ := hbm
      have nY : bm ≠ sysModules := fun q => by
        obtain ⟨es, ep, hd⟩ := hyd
        rw [q, hsy] at b3
        cases b3
        rw [hd] at b6; cases b6
      have nG : bm ≠ mainGlobals := fun q => by
        obtain ⟨o, es, ep, e, hd, _⟩ := hns
        rw [q, e] at b3
        cases b3
        rw [hd] at b6; cases b6
      have nP : bm ≠ p.2 := fun q => by rw [q, hTp] at b3; cases b3; cases b6
      exact ⟨bm, ob, b1, b2, nG, nP, hidT_get b3 (noD b3 nY (fun us' n z => by rw [b6] at z; cases z) fun z => by rw [b6] at z; cases z), b4, b5, b6⟩
    · obtain ⟨o, es, ep, e, hd, _⟩ := hns
      rw [z, hTp] at e
      cases e
      cases hd
  have e0 : Env0 P w K mg (hidT s₁.heap H) callerA [] s₁ H := ⟨rfl, hM, fun b o e => of_hidT e, Nat.le_of_eq (hidT_size _ _), trivial, (fun b hb => absurd (show b ∈ ([] : List Addr) from hb) (by simp)), hok, .of_eq hg⟩
  refine codeAny_mono ((F _ hKb (ns_hid (by decide) hns) TB).run callerA rfl hr [] s₁ H ⟨[.ref a], []⟩ [.ref a] [.ref a] _ _ e0 (hbind s₁ (.ref a)) (.cons rfl .nil) (hsp H _ hS Hy (fun ps z => by unfold sysO at z; cases z) fun p hp => Ht _ (List.mem_map.mpr ⟨p, hp, rfl⟩))) fun r s' h => ?_
  rcases r with e | fl
  · exact False.elim h
  rcases fl with _ | _ | _ | u
  · exact False.elim h
  · exact False.elim h
  · exact False.elim h
  obtain ⟨v, H', os, bare, un, hok', r', q⟩ := h
  have q' : v = .bl true := q
  subst q'
  obtain rfl : u = Value.bool true := r'
  have key : ∀ b o, b ∉ cs.map (·.2) → s₁.heap.get? b = some o → s'.heap.get? b = some o := fun b o nb e => by
    cases hb' : H b with
    | none => exact un.keep b o e hb' (fun z => absurd (show b ∈ ([] : List Addr) from z) (by simp)) (by simp)
    | some u =>
      rcases Hsome hb' with ⟨rfl, rfl⟩ | ⟨rfl, rfl⟩ | ⟨h1, _⟩
      · have e2 := (hok' _ _ (un.frzs _ oS _ hb')).1
        rw [ha] at e
        cases e
        exact e2
      · have e2 := (hok' _ _ (un.frzs _ oY _ hb')).1
        rw [hsy] at e
        cases e
        exact e2
      · exact absurd h1 nb
  have grown : ∀ p ∈ cs, ∃ more : Array Value, s'.heap.get? p.2 = some { cls := .none, data := .fields more } := fun p hp => by
    obtain ⟨more, z⟩ := un.tbls p.2 #[] (Ht _ (List.mem_map.mpr ⟨p, hp, rfl⟩))
    exact ⟨_, hok' p.2 _ z⟩
  refine ⟨rfl, ⟨fun b o e => ?_, fun b o e => ?_⟩, os, bare⟩
  · by_cases hb : b ∈ cs.map (·.2)
    · obtain ⟨p, hp, rfl⟩ := List.mem_map.mp hb
      obtain ⟨more, hm⟩ := grown p hp
      rw [hT p hp] at e
      cases e
      exact .inr (.inl ⟨((hC p hp).tab (hT p hp)).isCodeTable, rfl, #[], more, rfl, by rw [Array.empty_append]; exact hm⟩)
    · exact .inl (key b o hb e)
  · by_cases hb : b ∈ cs.map (·.2)
    · obtain ⟨p, hp, rfl⟩ := List.mem_map.mp hb
      obtain ⟨more, hm⟩ := grown p hp
      exact ⟨_, hm⟩
    · exact ⟨o, key b o hb e⟩
theorem walk_ofT {l : PySem.W.OpenLaw} {n k : Nat} {q : Program} {loose : List Str} {XP : (Str → Option Value) → Heap → Prop} {YP : World → Heap → Prop} {d : DefRec} {K : Params → PySem.W.Frag} {sp : PySem.W.Frag → List (Addr × Addr) → Sp} {x : Str}
    (hn : l.most = some n) (hn2 : n ≤ sizeLine) (hdf : d.params.defaults = []) (hr : Room k callerA) (him : importsNone q = true) (hKs : ∀ p, (K p).lookup sysModules = none)
    (hY : ∀ (w : World) (h : Heap), YP w h → (K w.params).In h)
    (F : ∀ (w : World) (mg : Str → Option Value) (fa : Addr) (h : Heap), YP w h → (K w.params).In h → h.Ns mainGlobals mg → mg d.name = some (.ref fa) →
      ∃ (fd : FuncData) (cs : List (Addr × Addr)), (∀ p ∈ cs, h.get? p.2 = some { cls := .none, data := .fields #[] }) ∧ (∀ p ∈ cs, (K w.params).lookup p.2 = none) ∧ (∀ p ∈ cs, PySem.W.CodeHd h p.1 p.2) ∧ (∀ p ∈ cs, p.1 ≠ sysModules ∧ p.2 ≠ sysModules) ∧ (∀ (s : Shared) (u : Value), BindsTo s fd ⟨[u], []⟩ [(x, u)]) ∧
        (∀ base : Heap, (K w.params).In base → base.Ns mainGlobals mg → (∀ p ∈ cs, LamX.TabB base mg p.1 p.2) → FnG l.prog w (K w.params) mg base CX0 k fa fd [x] (sp (K w.params) cs)) ∧
        ∀ (H : Hp) (a : Addr) (ns : List Int) (o : HO), ns.length ≤ n → SqL (K w.params) H a (ns.map V.int) → H sysModules = some o → (∀ ps, o ≠ .tbl ps) → (∀ p ∈ cs, H p.2 = some (.tbl #[])) → sp (K w.params) cs [.ref a] H (fun v _ => v = .bl true) fun _ _ _ => False) :
    PySem.W.WalkO q loose XP YP l.row.toRowW d [] (fun f vs => PySem.call f vs) :=
  Att.attach_call hn hdf fun w s₀ s₁ mg mb fa o pm cd doc a vs ns G Y ho hd hcd hmg hobj hints hlen hg =>
    have KX := hY w _ Y
    let ⟨fd, cs, hT, nT, hC, hy, hb, hF, hsp⟩ := F w mg fa _ Y KX G.T.g hmg
    let ⟨mm, hmm, _⟩ := (G.T.seer him).mods
    let ⟨oY, es, ep, eY, dY, _⟩ := hmm
    law_callT (hKs w.params) eY (fun p hp => (hy p hp).2) (fun z => by rw [z, eY] at hobj; cases hobj; cases dY) KX G.T.g G.T.b G.T.builtins G.T.nolimit hg hT nT hC (fun p hp => (hy p hp).1) G.T.bmain ⟨es, ep, dY⟩ hobj hints (Nat.le_trans hlen hn2) hr hF hb fun H o hS hyy hoo hTT => hsp H a ns o hlen hS hyy hoo hTT
end MB

set_option maxHeartbeats 4000000
namespace MB
open PySem PySem.Spec PyProof.Rows L2
/-! ### what a def or a lambda lets out, its caller takes -/
theorem takesX {P : Program} {w : World} {K : PySem.W.Frag} {mg : Str → Option Value} {base : Heap} {N : List Str} {qual : Str} {scope : Scope} {f : Addr} {cd : Value} {A : Around} {outer : List Env} {s : Shared} {H : Hp} {E : XK} :
    Takes (cxOf (L2.CX P w) P w K mg base N qual scope f cd A outer s H E) (fun cls d _ H => E cls d H) := takes_of rfl rfl rfl rfl
theorem passX {P : Program} {w : World} {K : PySem.W.Frag} {mg : Str → Option Value} {base : Heap} {N : List Str} {qual : Str} {scope : Scope} {f : Addr} {cd : Value} {A : Around} {outer : List Env} {s : Shared} {H : Hp} {E : XK} :
    Passes (L2.CX P w) (cxOf (L2.CX P w) P w K mg base N qual scope f cd A outer s H E) E := passes_call takesX fun _ _ _ _ h => h
theorem takesL {X : Cx} {A : Around} {outer : List Env} {s : Shared} {H : Hp} {E : XK} {scope : Scope} {f c' : Addr} : Takes (LamX.lamCx X A outer s H E scope f c') (fun cls d _ H => E cls d H) := takes_of rfl rfl rfl rfl
theorem passL' {X : Cx} {A : Around} {outer : List Env} {s : Shared} {H : Hp} {E : XK} {scope : Scope} {f c' : Addr} : Passes (L2.CX X.prog X.w) (LamX.lamCx X A outer s H E scope f c') E := passes_call takesL fun _ _ _ _ h => h
/-- a def that may raise, called where it does not -/
theorem passN {P : Program} {w : World} {X : Cx} : Passes (L2.CX P w) X E0 := fun _ _ _ _ _ _ _ ⟨_, _, _, _, _, _, _, _, _, _, _, _, h⟩ => h.elim
/-! ### raise C(value) -/
theorem raise_read {K : PySem.W.Frag} {C : Addr} {ta : TA} {σ : L2.St} {H : Hp} {W : XK} (h : ta σ H fun vs H1 => ∃ y, vs = [y] ∧ ∀ d H2, Same H1 H2 → H1 d = none → H2 d = some (.xd [("value", y)]) → W (.ref C) (some d) H2)
    (mono : ∀ (R R' : List V → Hp → Prop), (∀ vs H1, R vs H1 → R' vs H1) → ta σ H R → ta σ H R') : tMkO C (sp_init K C "value") [] ta σ H W := by
  refine mono _ _ ?_ h
  rintro vs H1 ⟨y, rfl, q⟩
  refine ⟨by simp, fun a na => ⟨a, y, rfl, upd_same, fun dx ndx ne => ⟨rfl, dx, [("value", y)], upd_same, ?_, ?_, ?_⟩⟩⟩
  · rw [upd_ne ne]; exact upd_same
  · by_cases e : dx = a
    · exact absurd e ne
    · rw [upd_ne e] at ndx; exact ndx
  · have nd : H1 dx = none := by rw [upd_ne ne] at ndx; exact ndx
    refine q dx _ (fun b o eb => ?_) nd upd_same
    have h1 : b ≠ a := ne_of_none eb na
    have h2 : b ≠ dx := ne_of_none eb nd
    rw [upd_ne h2]
    unfold del
    rw [if_neg h1, upd_ne h1, upd_ne h2, upd_ne h1]
    exact eb
/-! ### what stays when a lambda is made -/
theorem extN_seq {K : PySem.W.Frag} {H H' : Hp} (e : LamX.ExtN H H') {a : Addr} {xs : List V} (h : SqL K H a xs) : SqL K H' a xs := by
  rcases h with (h | ⟨o, h⟩) | h
  · exact .inl (.inl (e _ _ h fun _ z => nomatch z))
  · exact .inl (.inr ⟨o, e _ _ h fun _ z => nomatch z⟩)
  · exact .inr h
theorem extN_tup {K : PySem.W.Frag} {H H' : Hp} (e : LamX.ExtN H H') {a : Addr} {xs : List V} (h : SqT K H a xs) : SqT K H' a xs := by
  rcases h with (h | ⟨o, h⟩) | h
  · exact .inl (.inl (e _ _ h fun _ z => nomatch z))
  · exact .inl (.inr ⟨o, e _ _ h fun _ z => nomatch z⟩)
  · exact .inr h
theorem Dq.extN {K : PySem.W.Frag} {H H' : Hp} (e : LamX.ExtN H H') {v : V} {d : PyData} (h : Dq K H v d) : Dq K H' v d := by
  refine Dq.rec (motive_1 := fun v d _ => Dq K H' v d) (motive_2 := fun vs ds _ => DqAll K H' vs ds) ?_ ?_ ?_ ?_ ?_ ?_ ?_ ?_ ?_ h
  · exact .nonq
  · intro b; exact .blq b
  · intro i; exact .intq i
  · intro x; exact .strq x
  · intro a xs ds hs hne _ ih; exact .lstq (extN_seq e hs) hne ih
  · intro a xs ds hs _ ih; exact .tupq (extN_tup e hs) ih
  · intro a kvs des he hk _ ih; exact .dctq (e _ _ he fun _ z => nomatch z) hk ih
  · exact .nil
  · intro v vs d ds _ _ h1 h2; exact .cons h1 h2
theorem tabs_but {T : List (Addr × Str)} {H H' : Hp} {a : Addr} {xs : List V} (t : LamX.Tabs T H) (b : But a H H') (h : H a = some (.lst xs)) : LamX.Tabs T H' := fun p hp => by
  obtain ⟨ps, h1, h2, h3⟩ := t p hp
  refine ⟨ps, b _ _ (fun z => by rw [z, h] at h1; cases h1) h1, h2, fun pos cv hc => ?_⟩
  obtain ⟨c, e1, e2⟩ := h3 pos cv hc
  refine ⟨c, e1, b _ _ (fun z => ?_) e2⟩
  rw [z, h] at e2
  have e3 := Option.some.inj e2
  unfold LamX.CodeO at e3
  cases e3
theorem Tabs.same {T : List (Addr × Str)} {H H' : Hp} (t : LamX.Tabs T H) (s : Same H H') : LamX.Tabs T H' := LamX.Tabs.ext t s
/-! ### bs.count(True) -/
theorem dpBs {K : PySem.W.Frag} {H : Hp} : ∀ (bs : List Bool), DpAll K H (bs.map V.bl) (bs.map PyData.bool)
  | [] => .nil
  | b :: bs => .cons (.bl b) (dpBs bs)
def rCountB (K : PySem.W.Frag) : V → List V → Hp → VK → Prop := fun x xs H Q => ∃ (a : Addr) (bs : List Bool), x = .ref a ∧ xs = [.bl true] ∧ SqL K H a (bs.map V.bl) ∧ Q (.int (bs.countP id : Nat)) H
theorem mt_countB {X : Cx} (hu : X.A.units + 65 < cLine) : MtR X "list.count" (rCountB X.K) := by
  intro pins s σ H x xs v us Q I rx rxs h
  obtain ⟨a, bs, rfl, rfl, hs, q⟩ := h
  cases rx
  cases rxs with
  | cons ry rt =>
    rename_i uy ut
    cases rt
    cases ry
    obtain ⟨its, rv, ⟨o, n, ho, hc, hdn, hdt⟩, hlen⟩ := I.list hs
    obtain ⟨as, h4⟩ := Dp.readsAll I (bs.map PyData.bool) _ its (dpBs bs) rv
    have pl : ∀ l : List Bool, PyData.plainAll (l.map PyData.bool) = true := fun l => by
      induction l with
      | nil => rfl
      | cons b l ih => simp [PyData.plainAll, PyData.plain, ih]
    have dp : ∀ l : List Bool, PyData.depthAll (l.map PyData.bool) = 0 := fun l => by
      induction l with
      | nil => rfl
      | cons b l ih => simp [PyData.depthAll, PyData.depth, ih]
    refine SeqAt.count_list_data (xs := bs.map PyData.bool) (vs := its.toArray) (d := .bool true) ⟨o, ho, hc, n, hdt⟩ (by simpa using h4) (.bool true) (pl bs) rfl (by rw [dp]; omega) ?_
    have e : (bs.map PyData.bool).countP (fun y => PyData.eqv y (.bool true)) = bs.countP id := by
      rw [List.countP_map]
      congr 1
      funext b
      cases b <;> rfl
    rw [e]
    exact ⟨.int (bs.countP id : Nat), H, I.tok _, ⟨_, rfl⟩, q⟩
end MB

set_option maxHeartbeats 4000000
namespace MB
open PySem PySem.Spec PyProof.Rows L2
/-! ### a lambda handed to a def, whose handler reads the def's own names: what the call lets out is told at the slots of the call -/
section
variable {X : Cx} {pins : List (Addr × Obj)} {σ : L2.St} {H : Hp} {s : Shared}
theorem pe_actE {CXg : CXT} {Eg : XK} {Ng : List Str} {qg : Str} {sg : Scope} {g f c' : Addr} {cdg pm ctv : Value} {params : Arguments} {body : Expr} {scope : Scope} {k i : Nat} {a : Str} {pn : List (Addr × Obj)} {xe : Value → Shared → Prop} {W : WX} {E : XK} {tb : TE} {p1 p2 : Pos}
    (I : Inv X pins σ H s) (L : LamX.LamS X.env.scope scope) (hf : s.heap.get? f = some (PySem.W.kla_obj "<lambda>" (X.env.qual ++ "<lambda>") params body scope (cloFrom X.env.cells scope.names []) pm c' ctv)) (hfn : H f = none) (hfr : f ∉ frs X.stack)
    (bnd : bindArgs (PySem.W.kla_fn "<lambda>" (X.env.qual ++ "<lambda>") params body scope (cloFrom X.env.cells scope.names []) pm (.ref c') ctv) ⟨[], []⟩ = pure [])
    (tk : Takes ((cxOf CXg X.prog X.w X.K X.mg X.base Ng qg sg g cdg X.A X.stack s H Eg).tr pn xe) W) (hr : Room (k + 1) (X.A.deeper (envOfC qg sg s.heap.objs.size g cdg)))
    (bodyOk : ∀ (A : Around) (outer : List Env) (s : Shared) (H : Hp), Room k (A.deeper (LamX.lamEnv X scope s.heap.objs.size f c')) → PE (LamX.lamCx X A outer s H E scope f c') body tb)
    (hN : Ng[i]? = some a) (vis : Vis sg a) (hd : (a == ("__debug__" : Str)) = false := by decide) (hcd : (a == ("__classdict__" : Str)) = false := by decide) :
    PE ((cxOf CXg X.prog X.w X.K X.mg X.base Ng qg sg g cdg X.A X.stack s H Eg).tr pn xe) (.Call (.Name a p1) [] [] p2)
      (fun σ2 H2 Q => σ2[i]? = some (some (.ref f)) ∧ H2 c' = some (LamX.CodeO c' (X.env.qual ++ "<lambda>")) ∧ (∀ cls d H', E cls d H' → W cls d σ2 H') ∧ tb σ H2 Q) :=
  ⟨fun pins2 s2 σ2 H2 Q J ⟨hs, hc, hW, ht⟩ => wpAny_Call_Name_kw (thn ((pe_var (pos := p1) (i := i) hN vis hd hcd).run pins2 s2 σ2 H2 (fun v G => v = .ref f ∧ G = H2) J ⟨.ref f, hs, rfl, rfl⟩) fun u s1 ⟨v, H1, J1, r1, ev, eH⟩ => by
    subst ev eH
    obtain rfl : u = Value.ref f := r1
    have kf := J1.base.keep f _ hf hfn hfr (fun z => nomatch (show f ∈ ([] : List Addr) from z))
    have un : Un (frs X.stack) [] H H1 s.heap s1.heap := J1.base
    obtain ⟨⟨oc, vs, t, q1, q2, q3⟩, _, _⟩ := J1.hok c' _ hc
    have run : codeAny (model X.prog X.w) (X.A.deeper (envOfC qg sg s.heap.objs.size g cdg)) (.call (.ref f) ⟨[], []⟩) (CR (L2.CX X.prog X.w) (envOfC qg sg s.heap.objs.size g cdg :: X.stack) X.prog X.w H1 s1 Q E) s1 := by
      refine PySem.W.kla_callFunE hr.depth kf rfl L.co L.gen rfl ⟨c', oc, vs, t, rfl, q1, q2, q3⟩ ?_
      rw [bnd]
      refine wpAny_pure (wpAny_newFunctionEnv (fun y hy => (L.own y hy).2) (fun y hy => absurd hy (by simp)) (fun h₁ n1 n2 => ⟨J1.nolimit.fresh _ n2, show codeAny _ _ (.expr body (LamX.lamEnv X scope s1.heap.objs.size f c')) _ _ from ?_⟩) L.kind)
      have st : Inv (LamX.lamCx X (X.A.deeper (envOfC qg sg s.heap.objs.size g cdg)) (envOfC qg sg s.heap.objs.size g cdg :: X.stack) s1 H1 E scope f c') [] σ H1 { s1 with heap := h₁, toks := s1.toks + ([] : List (Str × Value)).length } :=
        LamX.lam_start2 I L J1.env0 hr.hd un n1 fun b o e => n2.extBut b o (Nat.ne_of_lt (Heap.lt_size e)) (Heap.get?_push_of_some _ e)
      exact PySem.W.kla_codeExpr (wpAny_mono ((bodyOk _ _ s1 H1 (hr.deeper _)).run [] _ _ H1 Q st ht) (fun v s' ⟨y, H', J', rv, z⟩ => ⟨y, H', J'.os, J'.bare, J'.base, J'.hok, rv, z⟩) fun e s' z => z)
    refine PySem.W.callWith_F0 ⟨_, _, _, _, kf⟩ (wpAny_call (codeAny_mono run fun r s' z => ?_))
    rcases r with e | fl
    · exact tk e s' (XE.of_call J1 (fun cls d H' h => hW cls d H' h) z)
    · rcases fl with _ | _ | _ | u
      · exact False.elim z
      · exact False.elim z
      · exact False.elim z
      · exact J1.after z)⟩
end
/-- the def that calls what it got, TT: what it makes of the lambda's reading -/
def GivesE (X : Cx) (Ng : List Str) (x : Str) (sg : Scope) (g : Addr) (cdg : Value) (bg : List Stmt) (a : Str) (q : Str) (TT : (XK → Hp → VK → Prop) → Hp → VK → Prop) : Prop :=
  ∀ (f c' : Addr) (s : Shared) (H : Hp) (Q : VK) (tl : XK → Hp → VK → Prop),
    (∀ (W : WX) (pn : List (Addr × Obj)) (xe : Value → Shared → Prop) (E : XK) (p1 p2 : Pos), Takes ((cxOf CX0 X.prog X.w X.K X.mg X.base Ng x sg g cdg X.A X.stack s H E0).tr pn xe) W →
      PE ((cxOf CX0 X.prog X.w X.K X.mg X.base Ng x sg g cdg X.A X.stack s H E0).tr pn xe) (.Call (.Name a p1) [] [] p2) (fun σ2 H2 Q => σ2[0]? = some (some (.ref f)) ∧ H2 c' = some (LamX.CodeO c' q) ∧ (∀ cls d H', E cls d H' → W cls d σ2 H') ∧ tl E H2 Q)) →
    H c' = some (LamX.CodeO c' q) → TT tl H Q →
    ∃ t, PSs (cxOf CX0 X.prog X.w X.K X.mg X.base Ng x sg g cdg X.A X.stack s H E0).nox bg t ∧ t { nx := fun _ H' => Q .non H', rt := Q } (L2.start Ng [.ref f]) H
section
variable {X : Cx}
/-- x(lambda: body) -/
theorem pe_lamE {T : List (Addr × Str)} {TT : (XK → Hp → VK → Prop) → Hp → VK → Prop} {x a : Str} {g c P : Addr} {k : Nat} {pg : Arguments} {bg : List Stmt} {sg : Scope} {dV kV doc pm cdv ct oc : Value} {an od : Option Addr} {osl : Array (Option Value)} {Ng : List Str}
    {params : Arguments} {body : Expr} {scope : Scope} {t : XK → TE} {p lpos pos : Pos} (hg : Gl X x) (hm : X.mg x = some (.ref g)) (hk : PySem.W.keepIn X.K (.ref g) = true)
    (lk : X.K.lookup g = some ⟨oc, od, .func (PySem.W.fnOf x x pg bg sg dV kV doc pm an cdv ct), osl⟩) (hcg : PySem.W.codeIn X.K cdv x = true) (hb : L2.Binds X.K (PySem.W.fnOf x x pg bg sg dV kV doc pm an cdv ct) [a] []) (Sg : FnScope Ng [a] sg) (hNg : Ng[0]? = some a) (hva : Vis sg a)
    (hG : GivesE X Ng x sg g cdv bg a (X.env.qual ++ "<lambda>") TT)
    (TB : LamX.TabB X.base X.mg c P) (hcode : X.env.code = .ref c) (hmT : (P, X.env.qual ++ "<lambda>") ∈ T) (hu : ∀ p ∈ T, p.1 = P → p.2 = X.env.qual ++ "<lambda>") (hr : Room (k + 2) X.A) (L : LamX.LamS X.env.scope scope) (hdef : defaultsOf params X.env = ([], []))
    (hbind : ∀ (q : Str) (cl : List (Str × Addr)) (pm cv ctv : Value), bindArgs (PySem.W.kla_fn "<lambda>" q params body scope cl pm cv ctv) ⟨[], []⟩ = pure [])
    (hbody : ∀ (A : Around) (outer : List Env) (s : Shared) (H : Hp) (E : XK) (f c' : Addr), Room k (A.deeper (LamX.lamEnv X scope s.heap.objs.size f c')) → PE (LamX.lamCx X A outer s H E scope f c') body (t E))
    (hdb : (x == ("__debug__" : Str)) = false := by decide) (hd : (a == ("__debug__" : Str)) = false := by decide) (hcd : (a == ("__classdict__" : Str)) = false := by decide) :
    PE X (.Call (.Name x p) [.Lambda params body scope lpos] [] pos) (LamX.tLam T TT t) :=
  ⟨fun pins s σ H Q I ⟨hT, h⟩ => wpAny_Call_Name_kw (ld_glob I hg hm (PySem.W.callWith_K (h₀ := X.base) I.ok.mod.kin hk
      (show wpAny _ _ (spliced ((false, eval (.Lambda params body scope lpos) X.env) :: backTo pos (starEach [] X.env))) _ _ s from Calls.spliced_cons (LamX.lam_make2 I TB hcode hmT hu hT hdef (L.has I.ok) fun f c' pm' ctv H1 s1 J eN T1 hf hfn hfr hco => Calls.spliced_nil ⟨J.kIn, by
        have run : codeAny (model X.prog X.w) X.A (.call (.ref g) ⟨[.ref f], []⟩) (CR CX0 X.stack X.prog X.w H1 s1 Q E0) s1 := by
          refine LamX.run_ofS (N := Ng) (ps := [a]) (us := [.ref f]) (vs := [.ref f]) lk hcg Sg hr J.env0 (hb s1 [.ref f] J.kIn rfl) (.cons rfl .nil) rfl fun hr' => ?_
          obtain ⟨t', g1, g2⟩ := hG f c' s1 H1 Q (fun E H' Q' => t E σ H' Q') (fun W pn xe E p1 p2 tk => pe_actE (i := 0) J L hf hfn hfr (hbind _ _ _ _ _) tk hr' (fun A outer s H hr2 => hbody A outer s H E f c' hr2) hNg hva hd hcd) hco (h H1 eN T1)
          exact ⟨t', g1.nox, g2⟩
        refine wpAny_call (codeAny_mono run fun r s2 z => ?_)
        rcases r with e | fl
        · exact (show False from z).elim
        · rcases fl with _ | _ | _ | u
          · exact False.elim z
          · exact False.elim z
          · exact False.elim z
          · exact J.after z⟩)) (by rfl) (by rfl)) hdb)⟩
end
end MB

set_option maxHeartbeats 4000000
namespace MB
open PySem PySem.Spec PyProof.Rows L2
theorem blT {c : Prop} [Decidable c] (h : c) : V.bl (decide c) = V.bl true := by rw [decide_eq_true h]
theorem blF {c : Prop} [Decidable c] (h : ¬ c) : V.bl (decide c) = V.bl false := by rw [decide_eq_false h]
theorem nblF {c : Prop} [Decidable c] (h : c) : V.bl (!decide c) = V.bl false := by rw [decide_eq_true h]; rfl
theorem nblT {c : Prop} [Decidable c] (h : ¬ c) : V.bl (!decide c) = V.bl true := by rw [decide_eq_false h]; rfl
theorem int_ne {i j : Int} (h : i ≠ j) : ¬ V.int i = V.int j := fun e => h (by injection e)
theorem dp_bls_inv {K : PySem.W.Frag} {H : Hp} : ∀ {ns : List Bool} {vs : List V}, DpAll K H vs (ns.map PyData.bool) → vs = ns.map V.bl
  | [], _, .nil => rfl
  | n :: ns, _, .cons a b => by
    cases a
    rw [dp_bls_inv b]
    rfl
/-- a comprehension whose items are truth values -/
theorem lc_bools {K : PySem.W.Frag} {J : It} {n : Nat} {G : Hp → Prop} {Y : Nat → Hp → V → Hp → Prop} (w : Walk J n G Y) {g : TG} {tt : TT} {te : TE} {vs : List Nat} {σ : L2.St} {H1 : Hp} {D : Addr} {Qd : Hp → Prop}
    (bs : List Bool) (hl : bs.length = n) (hn : n ≤ 1000) (hD : H1 D = none) (hG : ∀ H, Same H1 H → G H)
    (hs : ∀ i x H H', i < n → Same H1 H → Y i H x H' → ∀ b, bs[i]? = some b → ∀ R : V → Hp → Prop, (∀ H4, Same H H4 → R (.bl b) H4) →
      g x (wipe σ vs) H' fun σ2 H2 => wipe σ2 vs = wipe σ vs ∧ tt σ2 H2 fun b H3 => b = true ∧ te σ2 H3 R)
    (hd : ∀ H, Same H1 H → H D = some (.lst (bs.map V.bl)) → Qd H)
    (mg : ∀ x σ' H' (Q Q' : L2.St → Hp → Prop), (∀ a b, Q a b → Q' a b) → g x σ' H' Q → g x σ' H' Q') (mt : ∀ σ' H' (Q Q' : Bool → Hp → Prop), (∀ a b, Q a b → Q' a b) → tt σ' H' Q → tt σ' H' Q') :
    ∃ W : Nat → Nat → Hp → Prop, (∃ m, W 0 m (upd H1 D (.lst []))) ∧ ∀ i m H, W i m H →
      (J.stop i H ∧ Qd H) ∨ (J.go i H ∧ ∃ Nx : Hp → Prop, (∀ H', Nx H' → ∃ m', m' < m ∧ W (i + 1) m' H') ∧ ∀ x H', J.yld i H x H' → g x (wipe σ vs) H' fun σ2 H2 => wipe σ2 vs = wipe σ vs ∧ tt σ2 H2 fun b H3 =>
        if b = true then te σ2 H3 fun y H4 => ∃ acc, H4 D = some (.lst acc) ∧ acc.length < sizeLine ∧ Nx (upd H4 D (.lst (acc ++ [y]))) else Nx H3) := by
  refine lc_all (K := K) w (bs.map PyData.bool) (by rw [List.length_map, hl]) (fun d h => ?_) hn hD hG ?_ ?_ mg mt
  · obtain ⟨b, _, rfl⟩ := List.mem_map.mp h
    exact .bl b
  · intro i x H H' hi s y d hd' R hR
    rw [List.getElem?_map] at hd'
    cases e : bs[i]? with
    | none => rw [e] at hd'; cases hd'
    | some b =>
      rw [e] at hd'
      cases hd'
      exact hs i x H H' hi s y b e R fun H4 s4 => hR _ _ s4 (.bl b)
  · intro H acc s ha hA
    rw [dp_bls_inv hA] at ha
    exact hd H s ha
/-- a comprehension whose items are numbers -/
theorem lc_ints {K : PySem.W.Frag} {J : It} {n : Nat} {G : Hp → Prop} {Y : Nat → Hp → V → Hp → Prop} (w : Walk J n G Y) {g : TG} {tt : TT} {te : TE} {vs : List Nat} {σ : L2.St} {H1 : Hp} {D : Addr} {Qd : Hp → Prop}
    (bs : List Int) (hl : bs.length = n) (hn : n ≤ 1000) (hD : H1 D = none) (hG : ∀ H, Same H1 H → G H)
    (hs : ∀ i x H H', i < n → Same H1 H → Y i H x H' → ∀ b, bs[i]? = some b → ∀ R : V → Hp → Prop, (∀ H4, Same H H4 → R (.int b) H4) →
      g x (wipe σ vs) H' fun σ2 H2 => wipe σ2 vs = wipe σ vs ∧ tt σ2 H2 fun b H3 => b = true ∧ te σ2 H3 R)
    (hd : ∀ H, Same H1 H → H D = some (.lst (bs.map V.int)) → Qd H)
    (mg : ∀ x σ' H' (Q Q' : L2.St → Hp → Prop), (∀ a b, Q a b → Q' a b) → g x σ' H' Q → g x σ' H' Q') (mt : ∀ σ' H' (Q Q' : Bool → Hp → Prop), (∀ a b, Q a b → Q' a b) → tt σ' H' Q → tt σ' H' Q') :
    ∃ W : Nat → Nat → Hp → Prop, (∃ m, W 0 m (upd H1 D (.lst []))) ∧ ∀ i m H, W i m H →
      (J.stop i H ∧ Qd H) ∨ (J.go i H ∧ ∃ Nx : Hp → Prop, (∀ H', Nx H' → ∃ m', m' < m ∧ W (i + 1) m' H') ∧ ∀ x H', J.yld i H x H' → g x (wipe σ vs) H' fun σ2 H2 => wipe σ2 vs = wipe σ vs ∧ tt σ2 H2 fun b H3 =>
        if b = true then te σ2 H3 fun y H4 => ∃ acc, H4 D = some (.lst acc) ∧ acc.length < sizeLine ∧ Nx (upd H4 D (.lst (acc ++ [y]))) else Nx H3) := by
  refine lc_all (K := K) w (bs.map PyData.int) (by rw [List.length_map, hl]) (tf_ints _) hn hD hG ?_ ?_ mg mt
  · intro i x H H' hi s y d hd' R hR
    rw [List.getElem?_map] at hd'
    cases e : bs[i]? with
    | none => rw [e] at hd'; cases hd'
    | some b =>
      rw [e] at hd'
      cases hd'
      exact hs i x H H' hi s y b e R fun H4 s4 => hR _ _ s4 (.int b)
  · intro H acc s ha hA
    rw [dp_ints_inv hA] at ha
    exact hd H s ha
theorem k_pgTN {X : Cx} {K : PySem.W.Frag} {x y z : Str} {px py pz p1 : Pos} {k k1 : Nat} {pos : Pos} {t1 t2 : TG} (hK : X.K = K) (hc : X.calm = true) (h1 : PG X (.Tuple [.Name x px, .Name y py] k1 p1) t1) (h2 : PG X (.Name z pz) t2) : PG X (.Tuple [.Tuple [.Name x px, .Name y py] k1 p1, .Name z pz] k pos) (gTup K 2 (gCons t1 (gCons t2 gNil))) := by
  subst hK
  exact pg_tup hc (pgs_cons h1 (pgs_cons h2 pgs_nil))
theorem mono_pair2 {K : PySem.W.Frag} {n n' i j l : Nat} (x : V) (σ' : L2.St) (H' : Hp) (Q Q' : L2.St → Hp → Prop) (h : ∀ a b, Q a b → Q' a b) (e : gTup K n (gCons (gTup K n' (gCons (gName i) (gCons (gName j) gNil))) (gCons (gName l) gNil)) x σ' H' Q) : gTup K n (gCons (gTup K n' (gCons (gName i) (gCons (gName j) gNil))) (gCons (gName l) gNil)) x σ' H' Q' := by
  obtain ⟨a, xs, e1, e2, e3, v, r, e4, b, ys, f1, f2, f3, v1, r1, f4, v2, r2, f5, f6, v', r', e5, e6, q⟩ := e
  exact ⟨a, xs, e1, e2, e3, v, r, e4, b, ys, f1, f2, f3, v1, r1, f4, v2, r2, f5, f6, v', r', e5, e6, h _ _ q⟩
theorem ci_sum : ∀ p : List Nat, (ci p).sum = ((p.sum : Nat) : Int)
  | [] => rfl
  | x :: p => by
    have := ci_sum p
    simp only [ci, List.map_cons, List.sum_cons, Int.natCast_add] at this ⊢
    rw [this]
theorem cutV_to {p : List Nat} {m : Nat} (h : m ≤ p.length) : cutV (vi p) none (some (m : Int)) = vi (p.take m) := by
  rw [cut_to (by rw [vi_len]; exact h)]; simp [vi, List.map_take]
theorem cutV_from {p : List Nat} {m : Nat} (h : m ≤ p.length) : cutV (vi p) (some (m : Int)) none = vi (p.drop m) := by
  rw [cut_from (by rw [vi_len]; exact h)]; simp [vi, List.map_drop]
theorem cut_drop {p : List Nat} {m : Nat} (h : m ≤ p.length) : cutV (vi p) (some (m : Int)) none = (ci (p.drop m)).map V.int := by
  rw [cutV_from h, vi_ci]
theorem isi_int {K : PySem.W.Frag} {H : Hp} {i : Int} {Q : VK} (q : Q (.bl true) H) : rIsi K [.int i, .ty "int"] H Q :=
  ⟨.int i, .ty "int", .type "int", .type "int", true, rfl, .ty _, .base (.int i), kit_ty (by decide +kernel), q⟩
theorem isi_bool {K : PySem.W.Frag} {H : Hp} {i : Int} {Q : VK} (q : Q (.bl false) H) : rIsi K [.int i, .ty "bool"] H Q :=
  ⟨.int i, .ty "bool", .type "int", .type "bool", false, rfl, .ty _, .base (.int i), kit_ty (by decide +kernel), q⟩
theorem nth3 {n : Nat} (x : List V) (h : x.length = n) (i : Nat) (hi : i < (if (if (x.length : Int) < 3 then (x.length : Int) else 3) > 1 then (if (x.length : Int) < 3 then (x.length : Int) else 3) else 1 : Int).toNat) : i ≤ 62 := by
  have : (if (if (x.length : Int) < 3 then (x.length : Int) else 3) > 1 then (if (x.length : Int) < 3 then (x.length : Int) else 3) else 1) ≤ 3 := by split <;> split <;> omega
  omega
end MB

set_option maxHeartbeats 4000000
namespace MB
/-! ### binomial coefficients -/
def bin : Nat → Nat → Nat
  | _, 0 => 1
  | 0, _ + 1 => 0
  | n + 1, k + 1 => bin n k + bin n (k + 1)
theorem bin_zero (n : Nat) : bin n 0 = 1 := by cases n <;> rfl
theorem bin_succ (n k : Nat) : bin (n + 1) (k + 1) = bin n k + bin n (k + 1) := rfl
theorem bin_lt : ∀ {n k : Nat}, n < k → bin n k = 0
  | 0, k + 1, _ => rfl
  | n + 1, k + 1, h => by rw [bin_succ, bin_lt (n := n) (by omega), bin_lt (n := n) (by omega)]
theorem bin_self : ∀ n : Nat, bin n n = 1
  | 0 => rfl
  | n + 1 => by rw [bin_succ, bin_self n, bin_lt (by omega)]
theorem bin_one : ∀ n : Nat, bin n 1 = n
  | 0 => rfl
  | n + 1 => by rw [bin_succ, bin_zero, bin_one n]; omega
theorem bin_pos : ∀ {n k : Nat}, k ≤ n → 0 < bin n k
  | n, 0, _ => by rw [bin_zero]; decide
  | n + 1, k + 1, h => by rw [bin_succ]; have := bin_pos (n := n) (k := k) (by omega); omega
theorem bin_mul : ∀ n k : Nat, bin (n + 1) (k + 1) * (k + 1) = (n + 1) * bin n k
  | 0, 0 => by decide
  | 0, k + 1 => by simp [bin]
  | n + 1, 0 => by rw [bin_one, bin_zero]
  | n + 1, k + 1 => by
    have h1 := bin_mul n k
    have h2 := bin_mul n (k + 1)
    rw [bin_succ (n + 1) (k + 1), Nat.add_mul, h2]
    have e1 : bin (n + 1) (k + 1) * (k + 1 + 1) = bin (n + 1) (k + 1) * (k + 1) + bin (n + 1) (k + 1) := by rw [Nat.mul_add, Nat.mul_one]
    rw [e1, h1, bin_succ n k]
    grind
/-- the next one in a row -/
theorem bin_step {n j : Nat} (h : j ≤ n) : bin n (j + 1) * (j + 1) = bin n j * (n - j) := by
  have h1 := bin_mul n j
  rw [bin_succ, Nat.add_mul] at h1
  have e : (n + 1) * bin n j = bin n j * (n - j) + bin n j * (j + 1) := by rw [← Nat.mul_add, Nat.mul_comm]; congr 1; omega
  omega
theorem bin_div {n j : Nat} (h : j ≤ n) : bin n j * (n - j) / (j + 1) = bin n (j + 1) := by
  rw [← bin_step h, Nat.mul_div_cancel _ (by omega)]
theorem bin_sym : ∀ a b : Nat, bin (a + b) a = bin (a + b) b
  | 0, b => by rw [Nat.zero_add, bin_zero, bin_self]
  | a + 1, 0 => by rw [Nat.add_zero, bin_zero, bin_self]
  | a + 1, b + 1 => by
    have e : a + 1 + (b + 1) = (a + b + 1) + 1 := by omega
    rw [e, bin_succ (a + b + 1) a, bin_succ (a + b + 1) b]
    have h1 := bin_sym a (b + 1)
    have h2 := bin_sym (a + 1) b
    have e1 : a + (b + 1) = a + b + 1 := by omega
    have e2 : a + 1 + b = a + b + 1 := by omega
    rw [e1] at h1; rw [e2] at h2
    omega
theorem bin_sub {n k : Nat} (h : k ≤ n) : bin n (n - k) = bin n k := by
  have := bin_sym k (n - k)
  rw [show k + (n - k) = n by omega] at this
  exact this.symm
theorem bin_min {n k : Nat} (h : k ≤ n) : bin n (min k (n - k)) = bin n k := by
  by_cases c : k ≤ n - k
  · rw [Nat.min_eq_left c]
  · rw [Nat.min_eq_right (by omega), bin_sub h]
theorem bin_mono1 : ∀ n k : Nat, bin n k ≤ bin (n + 1) k
  | n, 0 => by rw [bin_zero, bin_zero]; exact Nat.le_refl _
  | n, k + 1 => by rw [bin_succ]; omega
theorem bin_mono {n m : Nat} (k : Nat) (h : n ≤ m) : bin n k ≤ bin m k := by
  induction h with
  | refl => exact Nat.le_refl _
  | step _ ih => exact Nat.le_trans ih (bin_mono1 _ _)
theorem bin_strict1 {n k : Nat} (h : k ≤ n + 1) : bin n (k + 1) < bin (n + 1) (k + 1) ∨ n < k := by
  by_cases c : n < k
  · exact .inr c
  · refine .inl ?_
    rw [bin_succ]
    have := bin_pos (n := n) (k := k) (by omega)
    omega
theorem bin_strict {n m k : Nat} (hk : 1 ≤ k) (hn : k ≤ n + 1) (h : n < m) : bin n k < bin m k := by
  have h1 : bin n k < bin (n + 1) k := by
    obtain ⟨j, rfl⟩ : ∃ j, k = j + 1 := ⟨k - 1, by omega⟩
    rw [bin_succ]
    have := bin_pos (n := n) (k := j) (by omega)
    omega
  exact Nat.lt_of_lt_of_le h1 (bin_mono k h)
theorem bin_pow : ∀ n k : Nat, bin n k ≤ (n + 1) ^ k
  | n, 0 => by rw [bin_zero]; simp
  | 0, k + 1 => by rw [bin_lt (by omega)]; exact Nat.zero_le _
  | n + 1, k + 1 => by
    have h := bin_mul n k
    have h1 : bin (n + 1) (k + 1) ≤ bin (n + 1) (k + 1) * (k + 1) := Nat.le_mul_of_pos_right _ (by omega)
    have h2 := bin_pow n k
    have h3 : (n + 1) ^ k ≤ (n + 1 + 1) ^ k := Nat.pow_le_pow_left (by omega) _
    have h4 : (n + 1) * bin n k ≤ (n + 1 + 1) * (n + 1 + 1) ^ k := Nat.mul_le_mul (by omega) (Nat.le_trans h2 h3)
    have h5 : (n + 1 + 1) ^ (k + 1) = (n + 1 + 1) * (n + 1 + 1) ^ k := by rw [Nat.pow_succ, Nat.mul_comm]
    omega
theorem bin_bits {n k : Nat} (hn : n < 2 ^ 64) (hk : k ≤ 64) : bin n k < 2 ^ 4097 := by
  have h1 := bin_pow n k
  have h2 : (n + 1) ^ k ≤ (2 ^ 64) ^ k := Nat.pow_le_pow_left (by omega) _
  have h3 : (2 ^ 64) ^ k ≤ (2 ^ 64 : Nat) ^ 64 := Nat.pow_le_pow_right (by decide) hk
  have h4 : ((2 ^ 64 : Nat) ^ 64) < 2 ^ 4097 := by decide +kernel
  omega
theorem bin_big {k c : Nat} (hk : 1 ≤ k) : c + 1 ≤ bin (k + c) k := by
  induction c with
  | zero => show 1 ≤ bin k k; rw [bin_self]; exact Nat.le_refl _
  | succ c ih =>
    have := bin_strict (n := k + c) (m := k + (c + 1)) (k := k) hk (by omega) (by omega)
    omega
/-- c is the least with n < C(k + c, k) -/
def Lw (k n c : Nat) : Prop := n < bin (k + c) k ∧ ∀ d, d < c → bin (k + d) k ≤ n
theorem Lw.uniq {k n c d : Nat} (a : Lw k n c) (b : Lw k n d) : c = d := by
  rcases Nat.lt_trichotomy c d with h | h | h
  · have := b.2 c h; have := a.1; omega
  · exact h
  · have := a.2 d h; have := b.1; omega
theorem Lw.mk' {k n c : Nat} (h : n < bin (k + c) k) (h' : c = 0 ∨ bin (k + (c - 1)) k ≤ n) : Lw k n c := by
  refine ⟨h, fun d hd => ?_⟩
  rcases h' with e | e
  · omega
  · exact Nat.le_trans (bin_mono k (by omega)) e
def lwGo (k n : Nat) : Nat → Nat → Nat
  | 0, c => c
  | f + 1, c => if n < bin (k + c) k then c else lwGo k n f (c + 1)
def lw (k n : Nat) : Nat := lwGo k n (n + 1) 0
theorem lwGo_ok {k n : Nat} (hk : 1 ≤ k) : ∀ f c, (∀ d, d < c → bin (k + d) k ≤ n) → n < f + c → Lw k n (lwGo k n f c)
  | 0, c, h, hf => ⟨by have := bin_big (k := k) (c := c) hk; unfold lwGo; omega, h⟩
  | f + 1, c, h, hf => by
    unfold lwGo
    by_cases hc : n < bin (k + c) k
    · rw [if_pos hc]; exact ⟨hc, h⟩
    · rw [if_neg hc]
      refine lwGo_ok hk f (c + 1) (fun d hd => ?_) (by omega)
      by_cases e : d < c
      · exact h d e
      · have : d = c := by omega
        subst this; omega
theorem lw_ok {k : Nat} (n : Nat) (hk : 1 ≤ k) : Lw k n (lw k n) := lwGo_ok hk _ _ (fun _ h => absurd h (by omega)) (by omega)
theorem lw_le {k n : Nat} (hk : 1 ≤ k) : lw k n ≤ n := by
  have h := (lw_ok n hk).2
  by_cases c : lw k n ≤ n
  · exact c
  · have h1 := h n (by omega)
    have := bin_big (k := k) (c := n) hk
    omega
end MB

set_option maxHeartbeats 4000000
namespace MB
/-- the terms above 0 of the representation of n with k terms -/
def rl : Nat → Nat → List Nat
  | 0, _ => []
  | k + 1, n => if n = 0 then [] else bin (k + lw (k + 1) n) (k + 1) :: rl k (n - bin (k + lw (k + 1) n) (k + 1))
theorem rl_zero (k : Nat) : rl k 0 = [] := by cases k <;> simp [rl]
theorem rl_succ {k n : Nat} (h : n ≠ 0) : rl (k + 1) n = bin (k + lw (k + 1) n) (k + 1) :: rl k (n - bin (k + lw (k + 1) n) (k + 1)) := by simp [rl, h]
theorem lw_pos {k n : Nat} (hk : 1 ≤ k) (hn : n ≠ 0) : 1 ≤ lw k n := by
  have h := (lw_ok n hk).1
  by_cases c : lw k n = 0
  · rw [c] at h
    have : bin (k + 0) k = 1 := bin_self k
    omega
  · omega
theorem top_le {k n : Nat} (hn : n ≠ 0) : bin (k + lw (k + 1) n) (k + 1) ≤ n := by
  have h1 := lw_pos (k := k + 1) (by omega) hn
  have h2 := (lw_ok (k := k + 1) n (by omega)).2 (lw (k + 1) n - 1) (by omega)
  rwa [show k + 1 + (lw (k + 1) n - 1) = k + lw (k + 1) n by omega] at h2
theorem top_pos {k n : Nat} (hn : n ≠ 0) : 0 < bin (k + lw (k + 1) n) (k + 1) :=
  bin_pos (by have := lw_pos (k := k + 1) (by omega) hn; omega)
theorem rest_lt {k n : Nat} (hn : n ≠ 0) : n - bin (k + lw (k + 1) n) (k + 1) < bin (k + lw (k + 1) n) k := by
  have h1 := (lw_ok (k := k + 1) n (by omega)).1
  have h2 := top_le (k := k) hn
  rw [show k + 1 + lw (k + 1) n = (k + lw (k + 1) n) + 1 by omega, bin_succ] at h1
  omega
theorem rest_zero {n : Nat} (hn : n ≠ 0) : n - bin (0 + lw (0 + 1) n) (0 + 1) = 0 := by
  have := rest_lt (k := 0) hn
  rw [bin_zero] at this
  omega
theorem rl_sum : ∀ k n : Nat, (k = 0 → n = 0) → (rl k n).sum = n
  | 0, n, h => by rw [h rfl]; rfl
  | k + 1, n, _ => by
    by_cases hn : n = 0
    · subst hn; rw [rl_zero]; rfl
    · rw [rl_succ hn, List.sum_cons, rl_sum k _ (fun e => by subst e; exact rest_zero hn)]
      have := top_le (k := k) hn
      omega
theorem rl_len : ∀ k n : Nat, (rl k n).length ≤ k
  | 0, n => by simp [rl]
  | k + 1, n => by
    by_cases hn : n = 0
    · subst hn; rw [rl_zero]; simp
    · rw [rl_succ hn, List.length_cons]
      have := rl_len k (n - bin (k + lw (k + 1) n) (k + 1))
      omega
theorem rl_pos : ∀ k n : Nat, ∀ x, x ∈ rl k n → 0 < x ∧ x ≤ n
  | 0, n, x, h => by simp [rl] at h
  | k + 1, n, x, h => by
    by_cases hn : n = 0
    · subst hn; rw [rl_zero] at h; cases h
    · rw [rl_succ hn] at h
      rcases List.mem_cons.mp h with h | h
      · rw [h]; exact ⟨top_pos hn, top_le hn⟩
      · have := rl_pos k _ x h
        omega
/-- the last flush's run holds what was merged and its own -/
theorem rl_step : ∀ k n : Nat, ∃ m, m ≤ (rl (k + 1) n).length ∧ rl (k + 1) (n + 1) = (rl (k + 1) n).take m ++ [1 + ((rl (k + 1) n).drop m).sum]
  | k, n => by
    by_cases hn : n = 0
    · subst hn
      refine ⟨0, Nat.zero_le _, ?_⟩
      rw [rl_zero, rl_succ (by omega)]
      have e : lw (k + 1) (0 + 1) = 1 := (lw_ok (0 + 1) (by omega)).uniq (Lw.mk' (by
        have := bin_big (k := k + 1) (c := 1) (by omega); omega) (.inr (by rw [show k + 1 + (1 - 1) = k + 1 by omega, bin_self]; exact Nat.le_refl _)))
      rw [e, bin_self, show 0 + 1 - 1 = 0 by omega, rl_zero]
      rfl
    · have hc := lw_ok (k := k + 1) n (by omega)
      by_cases hlt : n + 1 < bin (k + 1 + lw (k + 1) n) (k + 1)
      · have e : lw (k + 1) (n + 1) = lw (k + 1) n := (lw_ok (n + 1) (by omega)).uniq ⟨hlt, fun d hd => Nat.le_succ_of_le (hc.2 d hd)⟩
        cases k with
        | zero =>
          exfalso
          have h1 := rest_zero hn
          rw [bin_one] at h1 hlt
          have h2 := top_le (k := 0) hn
          rw [bin_one] at h2
          omega
        | succ k =>
          have hT := top_le (k := k + 1) hn
          obtain ⟨m, hm, hs⟩ := rl_step k (n - bin (k + 1 + lw (k + 1 + 1) n) (k + 1 + 1))
          refine ⟨m + 1, ?_, ?_⟩
          · rw [rl_succ hn, List.length_cons]; omega
          · rw [rl_succ (n := n + 1) (by omega), e, rl_succ hn, show n + 1 - bin (k + 1 + lw (k + 1 + 1) n) (k + 1 + 1) = n - bin (k + 1 + lw (k + 1 + 1) n) (k + 1 + 1) + 1 by omega, hs]
            simp
      · have e0 : n + 1 = bin (k + 1 + lw (k + 1) n) (k + 1) := by have := hc.1; omega
        have e : lw (k + 1) (n + 1) = lw (k + 1) n + 1 := (lw_ok (n + 1) (by omega)).uniq (Lw.mk' (by
          rw [e0]; exact bin_strict (by omega) (by omega) (by omega)) (.inr (by rw [show lw (k + 1) n + 1 - 1 = lw (k + 1) n by omega]; omega)))
        refine ⟨0, Nat.zero_le _, ?_⟩
        rw [rl_succ (n := n + 1) (by omega), e, show k + (lw (k + 1) n + 1) = k + 1 + lw (k + 1) n by omega, ← e0, Nat.sub_self, rl_zero]
        have := rl_sum (k + 1) n (fun h => by omega)
        simp [this]
        omega
/-- just behind a lifetime there is one run -/
theorem rl_edge {k c : Nat} (hk : 1 ≤ k) : rl k (bin (k + c) k) = [bin (k + c) k] := by
  obtain ⟨j, rfl⟩ : ∃ j, k = j + 1 := ⟨k - 1, by omega⟩
  have hp := bin_pos (n := j + 1 + c) (k := j + 1) (by omega)
  have e : lw (j + 1) (bin (j + 1 + c) (j + 1)) = c + 1 := (lw_ok _ (by omega)).uniq (Lw.mk' (bin_strict (by omega) (by omega) (by omega)) (.inr (by rw [show c + 1 - 1 = c by omega]; exact Nat.le_refl _)))
  rw [rl_succ (by omega), e, show j + (c + 1) = j + 1 + c by omega, Nat.sub_self, rl_zero]
/-- each term is a binomial coefficient, with falling upper numbers -/
theorem rl_tops : ∀ k n a : Nat, n < bin a k → ∃ ts : List Nat, ts.length = (rl k n).length ∧ (∀ i t, ts[i]? = some t → (rl k n)[i]? = some (bin t (k - i)) ∧ k - i ≤ t ∧ 1 ≤ k - i ∧ t < a) ∧ ∀ i t u, ts[i]? = some t → ts[i + 1]? = some u → u < t
  | 0, n, a, h => ⟨[], by simp [rl], by simp, by simp⟩
  | k + 1, n, a, h => by
    by_cases hn : n = 0
    · subst hn; exact ⟨[], by rw [rl_zero], by simp, by simp⟩
    · have h1 := lw_pos (k := k + 1) (by omega) hn
      have hlt : k + lw (k + 1) n < a := by
        have h2 := top_le (k := k) hn
        by_cases c : k + lw (k + 1) n < a
        · exact c
        · have := bin_mono (n := a) (m := k + lw (k + 1) n) (k + 1) (by omega); omega
      obtain ⟨ts, e1, e2, e3⟩ := rl_tops k (n - bin (k + lw (k + 1) n) (k + 1)) (k + lw (k + 1) n) (rest_lt hn)
      refine ⟨(k + lw (k + 1) n) :: ts, by rw [rl_succ hn]; simp [e1], ?_, ?_⟩
      · intro i t ht
        cases i with
        | zero =>
          simp only [List.getElem?_cons_zero, Option.some.injEq] at ht
          subst ht
          refine ⟨by rw [rl_succ hn]; rfl, by omega, by omega, hlt⟩
        | succ i =>
          simp only [List.getElem?_cons_succ] at ht
          obtain ⟨g1, g2, g3, g4⟩ := e2 i t ht
          refine ⟨by rw [rl_succ hn, List.getElem?_cons_succ, show k + 1 - (i + 1) = k - i by omega]; exact g1, by omega, by omega, by omega⟩
      · intro i t u ht hu
        cases i with
        | zero =>
          simp only [List.getElem?_cons_zero, Option.some.injEq] at ht
          simp only [List.getElem?_cons_succ] at hu
          subst ht
          exact (e2 0 u hu).2.2.2
        | succ i =>
          simp only [List.getElem?_cons_succ] at ht hu
          exact e3 i t u ht hu
end MB

set_option maxHeartbeats 4000000
namespace MB
/-! ### states: the greatest of the newer runs, what is left -/
def mx : List Nat → Nat
  | [] => 0
  | x :: xs => max x (mx xs)
theorem mx_cons (x : Nat) (xs : List Nat) : mx (x :: xs) = max x (mx xs) := rfl
theorem mx_fold : ∀ (xs : List Nat) (x : Nat), (xs.map (fun (m : Nat) => (m : Int))).foldl max (x : Int) = ((mx (x :: xs) : Nat) : Int)
  | [], x => by simp [mx]
  | y :: ys, x => by
    rw [List.map_cons, List.foldl_cons, show max (x : Int) (y : Int) = ((max x y : Nat) : Int) by omega, mx_fold ys (max x y)]
    simp only [mx]
    omega
theorem mx_le {c : Nat} : ∀ {xs : List Nat}, (∀ x, x ∈ xs → x ≤ c) → mx xs ≤ c
  | [], _ => Nat.zero_le _
  | x :: xs, h => by
    have h1 := h x (List.mem_cons_self ..)
    have h2 := mx_le (c := c) (xs := xs) fun y hy => h y (List.mem_cons_of_mem _ hy)
    rw [mx_cons]; omega
theorem mx_mem {x : Nat} : ∀ {xs : List Nat}, x ∈ xs → x ≤ mx xs
  | y :: ys, h => by
    rw [mx_cons]
    rcases List.mem_cons.mp h with h | h
    · subst h; omega
    · have := mx_mem h; omega
/-- a state within (k, c) -/
def Sta (k c : Nat) (st : List Nat) : Prop := st.length ≤ k ∧ ∀ x, x ∈ st → 1 ≤ x ∧ x ≤ c
theorem Sta.tail {k c x : Nat} {xs : List Nat} (h : Sta k c (x :: xs)) : Sta (k - 1) (mx (x :: xs)) xs :=
  ⟨by have := h.1; rw [List.length_cons] at this; omega, fun y hy => ⟨(h.2 y (List.mem_cons_of_mem _ hy)).1, by have := mx_mem hy; rw [mx_cons]; omega⟩⟩
theorem Sta.mx_le {k c : Nat} {st : List Nat} (h : Sta k c st) : mx st ≤ c := MB.mx_le fun x hx => (h.2 x hx).2
theorem Sta.mx_pos {k c x : Nat} {xs : List Nat} (h : Sta k c (x :: xs)) : 1 ≤ mx (x :: xs) := by
  have := (h.2 x (List.mem_cons_self ..)).1
  rw [mx_cons]; omega
theorem Sta.mono {k c k' c' : Nat} {st : List Nat} (h : Sta k c st) (h1 : k ≤ k') (h2 : c ≤ c') : Sta k' c' st :=
  ⟨by have := h.1; omega, fun x hx => ⟨(h.2 x hx).1, by have := (h.2 x hx).2; omega⟩⟩
/-- as the program adds it up -/
def remv : Nat → Nat → List Nat → Int
  | k, c, [] => (bin (k + c) k : Int) - 1
  | k, c, x :: xs => ((bin (k + c) k : Int) - (bin (k + mx (x :: xs)) k : Int)) + remv (k - 1) (mx (x :: xs)) xs
/-- what each run takes off -/
def brd : Nat → List Nat → Nat
  | _, [] => 0
  | k, x :: xs => bin (k + mx (x :: xs) - 1) k + brd (k - 1) xs
theorem pascal {k m : Nat} (hk : 1 ≤ k) (hm : 1 ≤ m) : bin (k + m) k = bin (k - 1 + m) (k - 1) + bin (k + m - 1) k := by
  obtain ⟨j, rfl⟩ : ∃ j, k = j + 1 := ⟨k - 1, by omega⟩
  rw [show j + 1 + m = (j + m) + 1 by omega, bin_succ, show j + 1 - 1 + m = j + m by omega, show j + 1 - 1 = j by omega, show j + m + 1 - 1 = j + m by omega]
theorem remv_brd : ∀ {k c : Nat} {st : List Nat}, Sta k c st → remv k c st = (bin (k + c) k : Int) - 1 - (brd k st : Int)
  | k, c, [], _ => by simp [remv, brd]
  | k, c, x :: xs, h => by
    have h1 := remv_brd h.tail
    have hk : 1 ≤ k := by have := h.1; rw [List.length_cons] at this; omega
    have hp := pascal hk h.mx_pos
    simp only [remv, brd]
    rw [h1]
    omega
theorem brd_le : ∀ {k c : Nat} {st : List Nat}, Sta k c st → brd k st + 1 ≤ bin (k + c) k
  | k, c, [], _ => by have := bin_pos (n := k + c) (k := k) (by omega); simp [brd]; omega
  | k, c, x :: xs, h => by
    have h1 := brd_le h.tail
    have hk : 1 ≤ k := by have := h.1; rw [List.length_cons] at this; omega
    have hp := pascal hk h.mx_pos
    have hm := bin_mono (n := k + mx (x :: xs)) (m := k + c) k (by have := h.mx_le; omega)
    simp only [brd]
    omega
theorem brd_room : ∀ {k c : Nat} {st : List Nat}, Sta k c st → 1 ≤ c → brd (k + 1) st + 1 ≤ brd k st + bin (k + c) (k + 1)
  | k, c, [], _, hc => by have := bin_pos (n := k + c) (k := k + 1) (by omega); simp [brd]; omega
  | k, c, x :: xs, h, hc => by
    have hk : 1 ≤ k := by have := h.1; rw [List.length_cons] at this; omega
    have h1 := brd_room h.tail h.mx_pos
    obtain ⟨j, rfl⟩ : ∃ j, k = j + 1 := ⟨k - 1, by omega⟩
    have hp := h.mx_pos
    have hm := bin_mono (n := j + 1 + mx (x :: xs)) (m := j + 1 + c) (j + 1 + 1) (by have := h.mx_le; omega)
    simp only [brd]
    rw [show j + 1 + 1 - 1 = j + 1 by omega, show j + 1 - 1 = j by omega] at *
    generalize mx (x :: xs) = M at *
    obtain ⟨m, rfl⟩ : ∃ m, M = m + 1 := ⟨M - 1, by omega⟩
    have e1 : bin (j + 1 + 1 + (m + 1) - 1) (j + 1 + 1) = bin (j + (m + 1)) (j + 1) + bin (j + 1 + m) (j + 1 + 1) := by
      rw [show j + 1 + 1 + (m + 1) - 1 = (j + m + 1) + 1 by omega, bin_succ, show j + m + 1 = j + (m + 1) by omega, show j + 1 + m = j + (m + 1) by omega]
    have e2 : bin (j + 1 + (m + 1)) (j + 1 + 1) = bin (j + (m + 1)) (j + 1) + bin (j + 1 + m) (j + 1 + 1) := by
      rw [show j + 1 + (m + 1) = (j + (m + 1)) + 1 by omega, bin_succ, show j + 1 + m = j + (m + 1) by omega]
    rw [show j + 1 + (m + 1) - 1 = j + (m + 1) by omega]
    omega
/-- element by element at most -/
def Le2 : List Nat → List Nat → Prop
  | [], _ => True
  | _ :: _, [] => False
  | x :: xs, y :: ys => x ≤ y ∧ Le2 xs ys
theorem Le2.refl : ∀ xs : List Nat, Le2 xs xs
  | [] => trivial
  | _ :: xs => ⟨Nat.le_refl _, Le2.refl xs⟩
theorem Le2.mx : ∀ {xs ys : List Nat}, Le2 xs ys → mx xs ≤ mx ys
  | [], _, _ => Nat.zero_le _
  | _ :: _, _ :: _, h => by
    have := Le2.mx h.2
    have := h.1
    rw [mx_cons, mx_cons]; omega
theorem Le2.brd : ∀ {k : Nat} {xs ys : List Nat}, Le2 xs ys → brd k xs ≤ brd k ys
  | _, [], _, _ => Nat.zero_le _
  | k, x :: xs, y :: ys, h => by
    have h1 := Le2.brd (k := k - 1) h.2
    have h2 := Le2.mx (xs := x :: xs) (ys := y :: ys) h
    have h3 := bin_mono (n := k + MB.mx (x :: xs) - 1) (m := k + MB.mx (y :: ys) - 1) k (by omega)
    simp only [MB.brd]
    omega
theorem Le2.dropLast : ∀ xs : List Nat, Le2 xs.dropLast xs
  | [] => trivial
  | [_] => trivial
  | x :: y :: xs => ⟨Nat.le_refl _, Le2.dropLast (y :: xs)⟩
theorem Le2.set : ∀ {xs : List Nat} {i v x : Nat}, xs[i]? = some x → v ≤ x → Le2 (xs.set i v) xs
  | [], i, v, x, h, _ => by simp at h
  | y :: ys, 0, v, x, h, hv => by
    simp at h; subst h
    exact ⟨hv, Le2.refl _⟩
  | y :: ys, i + 1, v, x, h, hv => ⟨Nat.le_refl _, Le2.set (by simpa using h) hv⟩
theorem brd_tail : ∀ {k x : Nat} {xs : List Nat}, brd k xs ≤ brd k (x :: xs)
  | k, x, [] => Nat.zero_le _
  | k, x, y :: ys => by
    have h1 := brd_tail (k := k - 1) (x := y) (xs := ys)
    have h3 := bin_mono (n := k + mx (y :: ys) - 1) (m := k + mx (x :: y :: ys) - 1) k (by simp only [mx]; omega)
    show bin (k + mx (y :: ys) - 1) k + brd (k - 1) ys ≤ bin (k + mx (x :: y :: ys) - 1) k + brd (k - 1) (y :: ys)
    omega
end MB

set_option maxHeartbeats 4000000
namespace MB
/-- the state after a flush that merges m runs -/
def sa (st : List Nat) (m : Nat) : List Nat := st.take (st.length - m) ++ [1 + mx (st.drop (st.length - m))]
theorem mx_append : ∀ xs ys : List Nat, mx (xs ++ ys) = max (mx xs) (mx ys)
  | [], ys => by simp [mx]
  | x :: xs, ys => by rw [List.cons_append, mx_cons, mx_cons, mx_append xs ys]; omega
theorem sa_all (st : List Nat) : sa st st.length = [1 + mx st] := by simp [sa]
theorem sa_cons {x : Nat} {xs : List Nat} {m : Nat} (h : m ≤ xs.length) : sa (x :: xs) m = x :: sa xs m := by
  unfold sa
  rw [List.length_cons, show xs.length + 1 - m = (xs.length - m) + 1 by omega]
  simp
theorem sa_len {st : List Nat} {m : Nat} (h : m ≤ st.length) : (sa st m).length = st.length - m + 1 := by
  unfold sa
  rw [List.length_append, List.length_take]
  simp
theorem sa_mx {st : List Nat} {m : Nat} : mx st ≤ mx (sa st m) := by
  unfold sa
  rw [mx_append]
  have h := mx_append (st.take (st.length - m)) (st.drop (st.length - m))
  rw [List.take_append_drop] at h
  simp only [mx]
  omega
/-- elements from 1 on, as many as there is room for -/
def Pos (k : Nat) (st : List Nat) : Prop := st.length ≤ k ∧ ∀ x, x ∈ st → 1 ≤ x
theorem Sta.pos {k c : Nat} {st : List Nat} (h : Sta k c st) : Pos k st := ⟨h.1, fun x hx => (h.2 x hx).1⟩
theorem Pos.sta {k : Nat} {st : List Nat} (h : Pos k st) : Sta k (mx st) st := ⟨h.1, fun x hx => ⟨h.2 x hx, mx_mem hx⟩⟩
theorem Pos.tail {k x : Nat} {xs : List Nat} (h : Pos k (x :: xs)) : Pos (k - 1) xs ∧ 1 ≤ k ∧ 1 ≤ x :=
  ⟨⟨by have := h.1; rw [List.length_cons] at this; omega, fun y hy => h.2 y (List.mem_cons_of_mem _ hy)⟩, by have := h.1; rw [List.length_cons] at this; omega, h.2 x (List.mem_cons_self ..)⟩
theorem brd_one (k v : Nat) : brd k [1 + v] = bin (k + v) k := by
  simp only [brd, mx]
  rw [show k + max (1 + v) 0 - 1 = k + v by omega]; rfl
/-- every flush costs at least one -/
theorem brd_sa : ∀ {k : Nat} {st : List Nat} {m : Nat}, Pos k st → m ≤ st.length → brd k st + 1 ≤ brd k (sa st m)
  | k, [], m, h, hm => by
    have : m = 0 := by simpa using hm
    subst this
    show brd k [] + 1 ≤ brd k [1 + 0]
    rw [brd_one, show k + 0 = k by omega, bin_self]
    simp [brd]
  | k, x :: xs, m, h, hm => by
    by_cases e : m = xs.length + 1
    · subst e
      rw [show xs.length + 1 = (x :: xs).length from rfl, sa_all, brd_one]
      exact brd_le h.sta
    · have hm' : m ≤ xs.length := by rw [List.length_cons] at hm; omega
      obtain ⟨h1, hk, hx⟩ := h.tail
      have ih := brd_sa h1 hm'
      rw [sa_cons hm']
      have hm2 := sa_mx (st := xs) (m := m)
      have hb := bin_mono (n := k + mx (x :: xs) - 1) (m := k + mx (x :: sa xs m) - 1) k (by rw [mx_cons, mx_cons]; omega)
      simp only [brd]
      omega
/-- what stands before the merged runs is greater than they are; these are exhausted -/
def Tight (k : Nat) (st : List Nat) (j : Nat) : Prop := (j = 0 ∨ ∃ y, st[j - 1]? = some y ∧ mx (st.drop j) < y) ∧ brd (k - j) (st.drop j) + 1 = bin (k - j + mx (st.drop j)) (k - j)
theorem brd_sa_eq : ∀ {k : Nat} {st : List Nat} {m : Nat}, Pos k st → m ≤ st.length → (brd k (sa st m) = brd k st + 1 ↔ Tight k st (st.length - m))
  | k, [], m, h, hm => by
    have : m = 0 := by simpa using hm
    subst this
    have e1 : brd k (sa [] 0) = 1 := by
      show brd k [1 + 0] = 1
      rw [brd_one, show k + 0 = k by omega, bin_self]
    rw [e1]
    refine ⟨fun _ => ⟨.inl rfl, ?_⟩, fun _ => by simp [brd]⟩
    simp only [List.drop_nil, mx, brd, List.length_nil]
    rw [show k - (0 - 0) + 0 = k - (0 - 0) by omega, bin_self]
  | k, x :: xs, m, h, hm => by
    by_cases e : m = xs.length + 1
    · subst e
      rw [show xs.length + 1 = (x :: xs).length from rfl, sa_all, brd_one, Nat.sub_self]
      constructor
      · intro e
        refine ⟨.inl rfl, ?_⟩
        simp only [Nat.sub_zero, List.drop_zero]
        omega
      · rintro ⟨_, e⟩
        simp only [Nat.sub_zero, List.drop_zero] at e
        omega
    · have hm' : m ≤ xs.length := by rw [List.length_cons] at hm; omega
      obtain ⟨h1, hk, hx⟩ := h.tail
      have ih := brd_sa_eq h1 hm'
      have ih1 := brd_sa h1 hm'
      rw [sa_cons hm']
      have hm2 := sa_mx (st := xs) (m := m)
      have hb := bin_mono (n := k + mx (x :: xs) - 1) (m := k + mx (x :: sa xs m) - 1) k (by rw [mx_cons, mx_cons]; omega)
      have hJ : (x :: xs).length - m = (xs.length - m) + 1 := by rw [List.length_cons]; omega
      rw [hJ]
      have hd : (x :: xs).drop (xs.length - m + 1) = xs.drop (xs.length - m) := rfl
      have hkk : k - (xs.length - m + 1) = k - 1 - (xs.length - m) := by omega
      have e1 : brd k (x :: sa xs m) = bin (k + mx (x :: sa xs m) - 1) k + brd (k - 1) (sa xs m) := rfl
      have e2 : brd k (x :: xs) = bin (k + mx (x :: xs) - 1) k + brd (k - 1) xs := rfl
      have step : brd k (x :: sa xs m) = brd k (x :: xs) + 1 ↔ (mx (x :: sa xs m) = mx (x :: xs) ∧ brd (k - 1) (sa xs m) = brd (k - 1) xs + 1) := by
        constructor
        · intro e
          have hq : bin (k + mx (x :: sa xs m) - 1) k = bin (k + mx (x :: xs) - 1) k := by omega
          refine ⟨?_, by omega⟩
          by_cases c : mx (x :: sa xs m) = mx (x :: xs)
          · exact c
          · have h0 : 1 ≤ mx (x :: xs) := by rw [mx_cons]; omega
            have h00 : mx (x :: xs) < mx (x :: sa xs m) := by rw [mx_cons, mx_cons] at c ⊢; omega
            have := bin_strict (n := k + mx (x :: xs) - 1) (m := k + mx (x :: sa xs m) - 1) (k := k) hk (by omega) (by omega)
            omega
        · rintro ⟨c1, c2⟩
          rw [e1, e2, c1, c2]; omega
      rw [step, ih]
      unfold Tight
      rw [hd, hkk]
      have hdec : mx xs = max (mx (xs.take (xs.length - m))) (mx (xs.drop (xs.length - m))) := by
        rw [← mx_append, List.take_append_drop]
      have hsa : mx (sa xs m) = max (mx (xs.take (xs.length - m))) (1 + mx (xs.drop (xs.length - m))) := by
        unfold sa; rw [mx_append]; simp [mx]
      constructor
      · rintro ⟨c1, c2, c3⟩
        refine ⟨.inr ?_, c3⟩
        rcases c2 with c2 | ⟨y, y1, y2⟩
        · rw [c2] at hsa hdec ⊢
          simp only [List.take_zero, mx] at hsa hdec
          refine ⟨x, rfl, ?_⟩
          rw [mx_cons, mx_cons] at c1
          omega
        · by_cases z : xs.length - m = 0
          · rw [z] at hsa hdec ⊢
            simp only [List.take_zero, mx] at hsa hdec
            refine ⟨x, rfl, ?_⟩
            rw [mx_cons, mx_cons] at c1
            omega
          · refine ⟨y, ?_, y2⟩
            rw [show xs.length - m + 1 - 1 = (xs.length - m - 1) + 1 by omega, List.getElem?_cons_succ]
            exact y1
      · rintro ⟨c2, c3⟩
        rcases c2 with c2 | ⟨y, y1, y2⟩
        · omega
        · by_cases z : xs.length - m = 0
          · rw [z] at y1 y2 hsa hdec c3 ⊢
            simp only [List.take_zero, mx] at hsa hdec
            have : y = x := by simpa using y1.symm
            subst this
            refine ⟨by rw [mx_cons, mx_cons]; omega, .inl rfl, c3⟩
          · rw [show xs.length - m + 1 - 1 = (xs.length - m - 1) + 1 by omega, List.getElem?_cons_succ] at y1
            have hy : y ≤ mx (xs.take (xs.length - m)) := by
              refine mx_mem (List.mem_of_getElem? (i := xs.length - m - 1) ?_)
              rw [List.getElem?_take, if_pos (by omega)]; exact y1
            refine ⟨by rw [mx_cons, mx_cons]; omega, .inr ⟨y, y1, y2⟩, c3⟩
/-- nothing is left: no room, and the newest run at the limit -/
theorem exh_iff : ∀ {k R : Nat} {xs : List Nat}, Sta k R xs → (brd k xs + 1 = bin (k + R) k ↔ (R = 0 ∨ (xs.length = k ∧ ∀ y, xs.getLast? = some y → y = R)))
  | k, R, [], h => by
    simp only [brd, List.length_nil, List.getLast?_nil]
    constructor
    · intro e
      by_cases hR : R = 0
      · exact .inl hR
      · refine .inr ⟨?_, by simp⟩
        by_cases hk : k = 0
        · exact hk.symm
        · have := bin_big (k := k) (c := R) (by omega); omega
    · rintro (rfl | ⟨rfl, _⟩)
      · show 0 + 1 = bin k k
        rw [bin_self]
      · rw [bin_zero]
  | k, R, x :: xs, h => by
    have hk : 1 ≤ k := by have := h.1; rw [List.length_cons] at this; omega
    have hM := h.mx_pos
    have hMR := h.mx_le
    have ht := h.tail
    have hp := pascal hk hM
    have hle := brd_le ht
    have e2 : brd k (x :: xs) = bin (k + mx (x :: xs) - 1) k + brd (k - 1) xs := rfl
    have hR : R ≠ 0 := by omega
    have key : brd k (x :: xs) + 1 = bin (k + R) k ↔ (mx (x :: xs) = R ∧ brd (k - 1) xs + 1 = bin (k - 1 + R) (k - 1)) := by
      constructor
      · intro e
        have hmm : mx (x :: xs) = R := by
          by_cases c : mx (x :: xs) = R
          · exact c
          · have := bin_strict (n := k + mx (x :: xs)) (m := k + R) (k := k) hk (by omega) (by omega)
            omega
        rw [hmm] at hp e2
        exact ⟨hmm, by omega⟩
      · rintro ⟨c1, c2⟩
        rw [c1] at hp e2
        omega
    rw [key]
    constructor
    · rintro ⟨c1, c2⟩
      rw [c1] at ht
      rcases (exh_iff ht).mp c2 with c | ⟨c3, c4⟩
      · exact absurd c hR
      · refine .inr ⟨by rw [List.length_cons]; omega, fun y hy => ?_⟩
        cases xs with
        | nil =>
          have : y = x := by simpa using hy.symm
          subst this
          simpa [mx] using c1
        | cons z zs =>
          rw [List.getLast?_cons_cons] at hy
          exact c4 y hy
    · rintro (c | ⟨c3, c4⟩)
      · exact absurd c hR
      · have hlast : ∃ y, (x :: xs).getLast? = some y := ⟨(x :: xs).getLast (by simp), List.getLast?_eq_some_getLast (by simp)⟩
        obtain ⟨y, hy⟩ := hlast
        have hyR := c4 y hy
        subst hyR
        have hmm : mx (x :: xs) = y := by
          have := mx_mem (List.mem_of_getLast? hy)
          omega
        refine ⟨hmm, ?_⟩
        rw [hmm] at ht
        refine (exh_iff ht).mpr (.inr ⟨by rw [List.length_cons] at c3; omega, fun z hz => ?_⟩)
        cases xs with
        | nil => simp at hz
        | cons u us =>
          rw [List.getLast?_cons_cons] at hy
          rw [hz] at hy
          exact Option.some.inj hy
/-- the bound of what is merged: the next older run, or the limit of writes -/
def bnd (c : Nat) (st : List Nat) (j : Nat) : Nat := (c :: st).getD j 0
def tst (c : Nat) (st : List Nat) (m : Nat) : Prop := mx (st.drop (st.length - m)) < bnd c st (st.length - m)
def few (k : Nat) (st : List Nat) : Nat := if st.length < k then 0 else 1
/-- what best_merge returns -/
def Bm (k c : Nat) (st : List Nat) (m : Nat) : Prop := few k st ≤ m ∧ m ≤ st.length ∧ tst c st m ∧ ∀ m', few k st ≤ m' → m' < m → ¬ tst c st m'
def BmN (k c : Nat) (st : List Nat) : Prop := ∀ m, few k st ≤ m → m ≤ st.length → ¬ tst c st m
theorem bnd_zero {c : Nat} {st : List Nat} : bnd c st 0 = c := rfl
theorem bnd_succ {c j : Nat} {st : List Nat} {y : Nat} (h : st[j]? = some y) : bnd c st (j + 1) = y := by
  simp [bnd, List.getD_eq_getElem?_getD, h]
/-- while no test holds, the greatest of the merged runs is the newest one -/
theorem chain {c : Nat} {st : List Nat} {m : Nat} (hm : m ≤ st.length) (hno : ∀ m', 1 ≤ m' → m' < m → ¬ tst c st m') (h1 : 1 ≤ m) : ∀ y, st.getLast? = some y → mx (st.drop (st.length - m)) = y := by
  induction m with
  | zero => omega
  | succ m ih =>
    intro y hy
    by_cases hm0 : m = 0
    · subst hm0
      have hne : st ≠ [] := by intro e; subst e; simp at hy
      have hpos := List.length_pos_iff.mpr hne
      have e : st.drop (st.length - (0 + 1)) = [st.getLast hne] := by
        rw [List.drop_eq_getElem_cons (show st.length - (0 + 1) < st.length by omega), show st.length - (0 + 1) + 1 = st.length by omega, List.drop_length, List.getLast_eq_getElem]
      rw [e]
      rw [List.getLast?_eq_some_getLast hne] at hy
      have := Option.some.inj hy
      simp [mx, this]
    · have ih' := ih (by omega) (fun m' a b => hno m' a (by omega)) (by omega) y hy
      have hf := hno m (by omega) (by omega)
      have hj : st.length - m = (st.length - (m + 1)) + 1 := by omega
      have hlt : st.length - (m + 1) < st.length := by omega
      have ed : st.drop (st.length - (m + 1)) = st[st.length - (m + 1)] :: st.drop (st.length - m) := by
        rw [hj]; exact List.drop_eq_getElem_cons hlt
      unfold tst at hf
      rw [hj, bnd_succ (List.getElem?_eq_getElem hlt), ← hj] at hf
      rw [ed, mx_cons]
      omega
theorem last_mem {st : List Nat} {y : Nat} (h : st.getLast? = some y) : y ∈ st := List.mem_of_getLast? h
theorem sa_sta {k c : Nat} {st : List Nat} {m : Nat} (h : Sta k c st) (hm : m ≤ st.length) (h1 : st.length - m + 1 ≤ k) (h2 : 1 + mx (st.drop (st.length - m)) ≤ c) : Sta k c (sa st m) := by
  refine ⟨by rw [sa_len hm]; exact h1, fun x hx => ?_⟩
  unfold sa at hx
  rcases List.mem_append.mp hx with hx | hx
  · exact h.2 x (List.mem_of_mem_take hx)
  · have : x = 1 + mx (st.drop (st.length - m)) := by simpa using hx
    subst this
    omega
theorem tst_ok {k c : Nat} {st : List Nat} {m : Nat} (h : Sta k c st) (hm : m ≤ st.length) (ht : tst c st m) : 1 + mx (st.drop (st.length - m)) ≤ c ∧ (st.length - m = 0 ∨ ∃ y, st[st.length - m - 1]? = some y ∧ mx (st.drop (st.length - m)) < y) := by
  unfold tst at ht
  by_cases hj : st.length - m = 0
  · rw [hj, bnd_zero] at ht
    exact ⟨by rw [hj]; omega, .inl hj⟩
  · have hlt : st.length - m - 1 < st.length := by omega
    have e : st.length - m = (st.length - m - 1) + 1 := by omega
    have hb := bnd_succ (c := c) (List.getElem?_eq_getElem hlt)
    rw [← e] at hb
    rw [hb] at ht
    have := h.2 _ (List.getElem_mem hlt)
    exact ⟨by omega, .inr ⟨_, List.getElem?_eq_getElem hlt, ht⟩⟩
theorem Bm.good {k c : Nat} {st : List Nat} {m : Nat} (h : Sta k c st) (b : Bm k c st m) : Sta k c (sa st m) ∧ brd k (sa st m) = brd k st + 1 := by
  obtain ⟨b1, b2, b3, b4⟩ := b
  obtain ⟨t1, t2⟩ := tst_ok h b2 b3
  have hl := h.1
  by_cases hk : st.length < k
  · have hf : few k st = 0 := if_pos hk
    have hm0 : m = 0 := by
      by_cases c0 : m = 0
      · exact c0
      · exfalso
        refine b4 0 (by omega) (by omega) ?_
        unfold tst
        rw [Nat.sub_zero, List.drop_length]
        have hlt : st.length - 1 < st.length := by omega
        have e : st.length = (st.length - 1) + 1 := by omega
        have hb := bnd_succ (c := c) (List.getElem?_eq_getElem hlt)
        rw [← e] at hb
        rw [hb]
        exact (h.2 _ (List.getElem_mem hlt)).1
    subst hm0
    refine ⟨sa_sta h b2 (by omega) t1, (brd_sa_eq h.pos b2).mpr ⟨t2, ?_⟩⟩
    rw [Nat.sub_zero, List.drop_length]
    show 0 + 1 = bin (k - st.length) (k - st.length)
    rw [bin_self]
  · have hf : few k st = 1 := if_neg hk
    rw [hf] at b1 b4
    refine ⟨sa_sta h b2 (by omega) t1, (brd_sa_eq h.pos b2).mpr ⟨t2, ?_⟩⟩
    have hne : st ≠ [] := by intro e; subst e; simp at b2; omega
    have hy : st.getLast? = some (st.getLast hne) := List.getLast?_eq_some_getLast hne
    have hc := chain b2 b4 b1 _ hy
    have hS : Sta (k - (st.length - m)) (mx (st.drop (st.length - m))) (st.drop (st.length - m)) :=
      ⟨by rw [List.length_drop]; omega, fun x hx => ⟨(h.2 x (List.mem_of_mem_drop hx)).1, mx_mem hx⟩⟩
    refine (exh_iff hS).mpr (.inr ⟨by rw [List.length_drop]; omega, fun y hy2 => ?_⟩)
    rw [hc]
    rw [List.getLast?_drop, if_neg (by omega), hy] at hy2
    exact (Option.some.inj hy2).symm
theorem BmN.zero {k c : Nat} {st : List Nat} (h : Sta k c st) (b : BmN k c st) : brd k st + 1 = bin (k + c) k := by
  have hl := h.1
  refine (exh_iff h).mpr ?_
  by_cases hk : st.length < k
  · have hf : few k st = 0 := if_pos hk
    have h0 := b 0 (by omega) (by omega)
    unfold tst at h0
    rw [Nat.sub_zero, List.drop_length] at h0
    by_cases hn : st.length = 0
    · rw [hn, bnd_zero] at h0
      simp only [mx] at h0
      exact .inl (by omega)
    · exfalso
      have hlt : st.length - 1 < st.length := by omega
      have e : st.length = (st.length - 1) + 1 := by omega
      have hb := bnd_succ (c := c) (List.getElem?_eq_getElem hlt)
      rw [← e] at hb
      rw [hb] at h0
      have := (h.2 _ (List.getElem_mem hlt)).1
      simp only [mx] at h0
      omega
  · have hf : few k st = 1 := if_neg hk
    refine .inr ⟨by omega, fun y hy => ?_⟩
    have hne : st ≠ [] := by intro e; subst e; simp at hy
    have h1 : 1 ≤ st.length := by have := List.length_pos_iff.mpr hne; omega
    have hc := chain (c := c) (Nat.le_refl _) (fun m' a b' => b m' (by omega) (by omega)) h1 y hy
    have hlast := b st.length (by omega) (Nat.le_refl _)
    unfold tst at hlast
    rw [Nat.sub_self, bnd_zero] at hlast
    rw [Nat.sub_self] at hc
    have := (h.2 y (last_mem hy)).2
    omega
/-- only one merge costs just one -/
theorem good_uniq {k c : Nat} {st : List Nat} {m n : Nat} (h : Sta k c st) (hm : m ≤ st.length) (hn : n ≤ st.length) (s1 : Sta k c (sa st m)) (s2 : Sta k c (sa st n)) (e1 : brd k (sa st m) = brd k st + 1) (e2 : brd k (sa st n) = brd k st + 1) : m = n := by
  have hl := h.1
  have look : ∀ m, m ≤ st.length → Sta k c (sa st m) → brd k (sa st m) = brd k st + 1 → (m = 0 ∧ st.length < k) ∨ (1 ≤ m ∧ st.length = k ∧ (∀ y, st.getLast? = some y → y = mx (st.drop (st.length - m))) ∧ (st.length - m = 0 ∨ ∃ y, st[st.length - m - 1]? = some y ∧ mx (st.drop (st.length - m)) < y)) := fun m hm s e => by
    obtain ⟨t1, t2⟩ := (brd_sa_eq h.pos hm).mp e
    have hs := s.1
    rw [sa_len hm] at hs
    by_cases h0 : m = 0
    · exact .inl ⟨h0, by omega⟩
    · refine .inr ⟨by omega, ?_⟩
      have hS : Sta (k - (st.length - m)) (mx (st.drop (st.length - m))) (st.drop (st.length - m)) :=
        ⟨by rw [List.length_drop]; omega, fun x hx => ⟨(h.2 x (List.mem_of_mem_drop hx)).1, mx_mem hx⟩⟩
      rcases (exh_iff hS).mp t2 with c | ⟨c1, c2⟩
      · exfalso
        have hlt : st.length - m < st.length := by omega
        have hmem : st[st.length - m] ∈ st.drop (st.length - m) := by
          rw [List.drop_eq_getElem_cons hlt]; exact List.mem_cons_self ..
        have := mx_mem hmem
        have := (h.2 _ (List.getElem_mem hlt)).1
        omega
      · rw [List.length_drop] at c1
        refine ⟨by omega, fun y hy => c2 y ?_, t1⟩
        rw [List.getLast?_drop, if_neg (by omega)]; exact hy
  have order : ∀ m n, m ≤ st.length → n ≤ st.length → m < n → Sta k c (sa st m) → Sta k c (sa st n) → brd k (sa st m) = brd k st + 1 → brd k (sa st n) = brd k st + 1 → False := fun m n hm hn hlt s1 s2 e1 e2 => by
    rcases look m hm s1 e1 with ⟨a1, a2⟩ | ⟨a1, a2, a3, a4⟩
    · rcases look n hn s2 e2 with ⟨b1, b2⟩ | ⟨b1, b2, b3, b4⟩ <;> omega
    · rcases look n hn s2 e2 with ⟨b1, b2⟩ | ⟨b1, b2, b3, b4⟩
      · omega
      · have hne : st ≠ [] := by intro e; subst e; simp at hn; omega
        have hy : st.getLast? = some (st.getLast hne) := List.getLast?_eq_some_getLast hne
        have q1 := a3 _ hy
        have q2 := b3 _ hy
        rcases a4 with a4 | ⟨y, y1, y2⟩
        · omega
        · have hmem : y ∈ st.drop (st.length - n) := by
            refine List.mem_of_getElem? (i := (st.length - m - 1) - (st.length - n)) ?_
            rw [List.getElem?_drop, show st.length - n + (st.length - m - 1 - (st.length - n)) = st.length - m - 1 by omega]
            exact y1
          have := mx_mem hmem
          omega
  rcases Nat.lt_trichotomy m n with c | c | c
  · exact (order m n hm hn c s1 s2 e1 e2).elim
  · exact c
  · exact (order n m hn hm c s2 s1 e2 e1).elim
end MB

set_option maxHeartbeats 4000000
namespace MB
/-- no newer run is above an older one -/
def Desc (st : List Nat) : Prop := st.Pairwise fun x y => y ≤ x
theorem Desc.mx {x : Nat} {xs : List Nat} (h : Desc (x :: xs)) : mx (x :: xs) = x := by
  have h1 := (List.pairwise_cons.mp h).1
  have := MB.mx_le (c := x) h1
  rw [mx_cons]; omega
theorem Desc.tail {x : Nat} {xs : List Nat} (h : Desc (x :: xs)) : Desc xs := (List.pairwise_cons.mp h).2
/-- the lengths of the runs -/
def lens : Nat → List Nat → List Nat
  | _, [] => []
  | k, x :: xs => bin (k + x - 1) k :: lens (k - 1) xs
theorem lens_len : ∀ (k : Nat) (st : List Nat), (lens k st).length = st.length
  | _, [] => rfl
  | k, x :: xs => by simp [lens, lens_len (k - 1) xs]
theorem lw_desc {k x : Nat} {xs : List Nat} (h : Pos k (x :: xs)) (d : Desc (x :: xs)) : lw k (brd k (x :: xs)) = x := by
  obtain ⟨h1, hk, hx⟩ := h.tail
  have hb := brd_le h.sta
  have e : brd k (x :: xs) = bin (k + mx (x :: xs) - 1) k + brd (k - 1) xs := rfl
  rw [d.mx] at hb e
  refine (lw_ok _ hk).uniq (Lw.mk' (by omega) (.inr ?_))
  rw [show k + (x - 1) = k + x - 1 by omega]
  omega
theorem rl_desc : ∀ {k : Nat} {st : List Nat}, Pos k st → Desc st → rl k (brd k st) = lens k st
  | k, [], _, _ => by simp [brd, lens, rl_zero]
  | k, x :: xs, h, d => by
    have hl := lw_desc h d
    obtain ⟨h1, hk, hx⟩ := h.tail
    have ih := rl_desc h1 d.tail
    have e : brd k (x :: xs) = bin (k + x - 1) k + brd (k - 1) xs := by
      show bin (k + mx (x :: xs) - 1) k + brd (k - 1) xs = _
      rw [d.mx]
    obtain ⟨j, rfl⟩ : ∃ j, k = j + 1 := ⟨k - 1, by omega⟩
    have hp := bin_pos (n := j + 1 + x - 1) (k := j + 1) (by omega)
    have hne : brd (j + 1) (x :: xs) ≠ 0 := by omega
    rw [rl_succ hne, hl]
    have e2 : j + x = j + 1 + x - 1 := by omega
    rw [e2, e]
    show _ :: _ = bin (j + 1 + x - 1) (j + 1) :: lens (j + 1 - 1) xs
    rw [show bin (j + 1 + x - 1) (j + 1) + brd (j + 1 - 1) xs - bin (j + 1 + x - 1) (j + 1) = brd (j + 1 - 1) xs by omega, show j + 1 - 1 = j by omega]
    rw [show j + 1 - 1 = j by omega] at ih
    rw [ih]
theorem rl_desc_len {k : Nat} {st : List Nat} (h : Pos k st) (d : Desc st) : (rl k (brd k st)).length = st.length := by rw [rl_desc h d, lens_len]
theorem sa_desc {st : List Nat} {m : Nat} (d : Desc st) (hm : m ≤ st.length) (t : st.length - m = 0 ∨ ∃ y, st[st.length - m - 1]? = some y ∧ mx (st.drop (st.length - m)) < y) : Desc (sa st m) := by
  unfold sa Desc
  refine List.pairwise_append.mpr ⟨d.sublist (List.take_sublist _ _), List.pairwise_singleton _ _, fun x hx v hv => ?_⟩
  have hv' : v = 1 + mx (st.drop (st.length - m)) := by simpa using hv
  subst hv'
  rcases t with t | ⟨y, y1, y2⟩
  · rw [t] at hx; simp at hx
  · obtain ⟨i, hi⟩ := List.getElem?_of_mem hx
    rw [List.getElem?_take] at hi
    by_cases c : i < st.length - m
    · rw [if_pos c] at hi
      have hyx : y ≤ x := by
        by_cases e : i = st.length - m - 1
        · subst e; rw [y1] at hi; have := Option.some.inj hi; omega
        · obtain ⟨q1, r1⟩ := List.getElem?_eq_some_iff.mp hi
          obtain ⟨q2, r2⟩ := List.getElem?_eq_some_iff.mp y1
          have := List.pairwise_iff_getElem.mp d i (st.length - m - 1) q1 q2 (by omega)
          omega
      omega
    · rw [if_neg c] at hi; cases hi
theorem Bm.tight {k c : Nat} {st : List Nat} {m : Nat} (h : Sta k c st) (b : Bm k c st m) : st.length - m = 0 ∨ ∃ y, st[st.length - m - 1]? = some y ∧ mx (st.drop (st.length - m)) < y := (tst_ok h b.2.1 b.2.2.1).2
/-- the policy's merges and states -/
def pm (k n : Nat) : Nat := (rl k n).length + 1 - (rl k (n + 1)).length
def pst (k : Nat) : Nat → List Nat
  | 0 => []
  | n + 1 => sa (pst k n) (pm k n)
theorem bm_ex {k c : Nat} {st : List Nat} (h : Sta k c st) (hlt : brd k st + 1 < bin (k + c) k) : ∃ m, Bm k c st m := by
  by_cases e : ∃ m, few k st ≤ m ∧ m ≤ st.length ∧ tst c st m
  · obtain ⟨m, hm⟩ := e
    induction m using Nat.strongRecOn with
    | ind m ih =>
      by_cases c' : ∃ m', m' < m ∧ few k st ≤ m' ∧ m' ≤ st.length ∧ tst c st m'
      · obtain ⟨m', h1, h2⟩ := c'
        exact ih m' h1 h2
      · exact ⟨m, hm.1, hm.2.1, hm.2.2, fun m' a b t => c' ⟨m', b, a, by have := hm.2.1; omega, t⟩⟩
  · exfalso
    have := BmN.zero h fun m a b t => e ⟨m, a, b, t⟩
    omega
/-- the best merge from a descending state is the policy's -/
theorem bm_pm {k c : Nat} {st : List Nat} {m : Nat} (h : Sta k c st) (d : Desc st) (b : Bm k c st m) : m = pm k (brd k st) ∧ Sta k c (sa st m) ∧ Desc (sa st m) ∧ brd k (sa st m) = brd k st + 1 := by
  obtain ⟨g1, g2⟩ := b.good h
  have d2 := sa_desc d b.2.1 (b.tight h)
  refine ⟨?_, g1, d2, g2⟩
  unfold pm
  rw [rl_desc_len h.pos d, ← g2, rl_desc_len g1.pos d2, sa_len b.2.1]
  have := b.2.1
  omega
theorem sta_of {k c : Nat} {st : List Nat} (h : Pos k st) (d : Desc st) (hc : brd k st < bin (k + c) k) : Sta k c st := by
  refine ⟨h.1, fun x hx => ⟨h.2 x hx, ?_⟩⟩
  cases st with
  | nil => cases hx
  | cons y ys =>
    have h1 := lw_desc h d
    have h2 := mx_mem hx
    rw [d.mx] at h2
    obtain ⟨_, hk, _⟩ := h.tail
    have h3 := (lw_ok (brd k (y :: ys)) hk).2
    rw [h1] at h3
    by_cases e : y ≤ c
    · omega
    · have := h3 c (by omega); omega
theorem pst_ok {k : Nat} (hk : 1 ≤ k) : ∀ n, Pos k (pst k n) ∧ Desc (pst k n) ∧ brd k (pst k n) = n
  | 0 => ⟨⟨by simp [pst], by simp [pst]⟩, List.Pairwise.nil, rfl⟩
  | n + 1 => by
    obtain ⟨h1, h2, h3⟩ := pst_ok hk n
    have hb := bin_big (k := k) (c := n + 2) hk
    have hs := sta_of (c := n + 2) h1 h2 (by omega)
    obtain ⟨m, b⟩ := bm_ex hs (by omega)
    obtain ⟨e, g1, g2, g3⟩ := bm_pm hs h2 b
    rw [h3] at e g3
    subst e
    exact ⟨g1.pos, g2, g3⟩
theorem pm_le {k : Nat} (hk : 1 ≤ k) (n : Nat) : pm k n ≤ (pst k n).length := by
  obtain ⟨h1, h2, h3⟩ := pst_ok hk n
  have hb := bin_big (k := k) (c := n + 2) hk
  have hs := sta_of (c := n + 2) h1 h2 (by omega)
  obtain ⟨m, b⟩ := bm_ex hs (by omega)
  obtain ⟨e, _⟩ := bm_pm hs h2 b
  rw [h3] at e
  subst e
  exact b.2.1
theorem pst_len {k : Nat} (hk : 1 ≤ k) (n : Nat) : (pst k n).length = (rl k n).length := by
  obtain ⟨h1, h2, h3⟩ := pst_ok hk n
  have := rl_desc_len h1 h2
  rw [h3] at this
  exact this.symm
theorem pm_int {k : Nat} (hk : 1 ≤ k) (n : Nat) : ((rl k n).length : Int) + 1 - ((rl k (n + 1)).length : Int) = (pm k n : Int) := by
  have h1 := pst_len hk n
  have h2 := pst_len hk (n + 1)
  have h3 := pm_le hk n
  have h4 : (pst k (n + 1)).length = (pst k n).length - pm k n + 1 := sa_len h3
  unfold pm at *
  omega
end MB

set_option maxHeartbeats 4000000
namespace MB
open PySem PySem.Spec PyProof.Rows L2
theorem alike_ints (ns : List Int) : PySem.W.AlikeAll (ns.map PyData.int) := by
  refine ⟨fun x hx y hy => ?_, fun x hx e => ?_⟩
  · obtain ⟨i, _, rfl⟩ := List.mem_map.mp hx
    obtain ⟨j, _, rfl⟩ := List.mem_map.mp hy
    simp [PySem.W.alike]
  · obtain ⟨i, _, rfl⟩ := List.mem_map.mp hx
    cases e
theorem depth_ints : ∀ ns : List Int, PyData.depthAll (ns.map PyData.int) = 0
  | [] => by simp [PyData.depthAll]
  | n :: ns => by simp [PyData.depthAll, PyData.depth, depth_ints ns]
/-! ### max of a tuple of ints; with default= -/
def rMaxT (K : PySem.W.Frag) : List V → Hp → VK → Prop := fun xs H Q => ∃ (a : Addr) (n : Int) (ns : List Int), xs = [V.ref a] ∧ SqT K H a ((n :: ns).map V.int) ∧ Q (.int (ns.foldl max n)) H
theorem cr_maxT {X : Cx} {K : PySem.W.Frag} (hK : X.K = K) (hc : X.calm = true) (hu : X.A.units + 64 < cLine) : CallR X (.builtin "max") (rMaxT K) := by
  subst hK
  intro pins s σ H vs us Q I r h
  obtain ⟨a, n, ns, rfl, hs, q⟩ := h
  obtain ⟨its, rv, hl, _⟩ := I.tuple hs
  rw [Vals.ref1 r]
  obtain ⟨as, rd⟩ := Dp.readsAll I ((n :: ns).map PyData.int) _ its (dp_ints (n :: ns)) rv
  refine PySem.W.max_tuple_data (x := .int n) (xs := ns.map PyData.int) (I.ok.hd hc) hl (by simpa using rd) (alike_ints (n :: ns)) ?_ fun i v h' tk bs _ hr hk => ?_
  · have := depth_ints (n :: ns)
    rw [List.map_cons] at this
    rw [this]; omega
  · rw [PySem.W.maxD_ints] at hr
    cases hr
    exact ⟨.int _, H, I.kept hk, ⟨_, rfl⟩, q⟩
def rMaxDef (K : PySem.W.Frag) : List V → List V → Hp → VK → Prop := fun xs zs H Q => ∃ (a : Addr) (z : Int) (ns : List Int), xs = [V.ref a] ∧ zs = [V.int z] ∧ SqT K H a (ns.map V.int) ∧ (ns = [] → Q (.int z) H) ∧ ∀ m r, ns = m :: r → Q (.int (r.foldl max m)) H
theorem cr_maxDef {X : Cx} {K : PySem.W.Frag} (hK : X.K = K) (hc : X.calm = true) (hu : X.A.units + 64 < cLine) : CallRK X (.builtin "max") [Str.ofString "default"] (rMaxDef K) := by
  subst hK
  intro pins s σ H vs zs us ws Q I r rz h
  obtain ⟨a, z, ns, rfl, rfl, hs, q0, q1⟩ := h
  obtain ⟨its, rv, hl, _⟩ := I.tuple hs
  rw [Vals.ref1 r]
  obtain ⟨u, rfl, tz, rfl⟩ := vals1 rz
  obtain ⟨as, rd⟩ := Dp.readsAll I (ns.map PyData.int) _ its (dp_ints ns) rv
  refine PySem.W.max_tuple_default (xs := ns.map PyData.int) (I.ok.hd hc) hl (by simpa using rd) (alike_ints ns) ?_ (fun e h' tk hk => ?_) fun y ys i v h' tk bs e _ hr hk => ?_
  · rw [depth_ints ns]; omega
  · exact ⟨.int z, H, I.kept hk, ⟨_, rfl⟩, q0 (List.map_eq_nil_iff.mp e)⟩
  · cases ns with
    | nil => cases e
    | cons m t =>
      rw [List.map_cons] at e
      cases e
      rw [PySem.W.maxD_ints] at hr
      cases hr
      exact ⟨.int _, H, I.kept hk, ⟨_, rfl⟩, q1 m t rfl⟩
/-! ### sorted of a tuple of ints -/
section
variable {prog : Program} {w : World} {A : Around} {E : Value → Shared → Prop} {s : Shared}
theorem gather_tuple {p : Addr} {xs : List Value} {R : List Value → Shared → Prop} (ht : s.heap.IsTuple p xs.toArray) (hz : xs.length ≤ sizeLine)
    (q : R xs { s with heap := (s.heap.push (seqObj "list" #[] 0)).update s.heap.objs.size (Obj.mapSeq (· ++ xs.toArray)) }) : wpAny (model prog w) A (collect (.ref p)) R E s := by
  obtain ⟨ob, hob, hcl, ep, hdt⟩ := id ht
  unfold collect
  refine wpAny_bind (wpAny_runValue (codeAny_builtin entry_proto_collect' (show wpAny _ _ (do again (.builtin "list.__iadd__" ⟨[← newList [], .ref p], []⟩)) _ _ s from ?_)))
  refine wpAny_bind (wpAny_newList (wpAny_pure ⟨Code.quiet_builtin _ (by decide +kernel), codeAny_builtin entry_list_iadd' (show wpAny _ _ (Builtin.List.listExtendWith (.ref s.heap.objs.size) (.ref p) (.ref s.heap.objs.size)) _ _ { s with heap := s.heap.push (seqObj "list" #[] 0) } from ?_)⟩))
  unfold Builtin.List.listExtendWith
  have hob' : (s.heap.push (seqObj "list" #[] 0)).get? p = some ob := Heap.get?_push_of_some _ hob
  refine wpAny_bind (wpAny_typeOf (T := "tuple") ⟨ob, hob', hcl⟩ ?_)
  have tt : (Value.type "tuple" == Value.type "tuple") = true := by rfl
  rw [if_pos (by rw [tt]; simp)]
  refine wpAny_bind (listItems_at hob' hdt (wpAny_bind (listItems_at (xs := #[]) (n := 0) (Heap.get?_push_size _ rfl) rfl ?_)))
  rw [if_neg (by simp)]
  refine wpAny_bind (listUpdate_at (xs := #[]) (n := 0) (Heap.get?_push_size _ rfl) rfl (wpAny_pure ?_) (Nat.zero_le _) (by show (#[] ++ xs.toArray).size ≤ sizeLine + 1; simp only [Array.size_append, List.size_toArray, List.length_nil]; omega))
  show wpAny (model prog w) A (load s.heap.objs.size >>= _) R E { s with heap := (s.heap.push (seqObj "list" #[] 0)).update s.heap.objs.size (Obj.mapSeq (· ++ xs.toArray)) }
  refine wpAny_bind (wpAny_load (get?_update_seq (Heap.get?_push_size _ rfl) _) (show wpAny _ _ (pure ((#[] : Array Value) ++ xs.toArray).toList) R E _ from ?_))
  have ex : ((#[] : Array Value) ++ xs.toArray).toList = xs := by simp
  rw [ex]
  exact wpAny_pure q
theorem sorted_tup {p : Addr} {xs : List Value} {ns : List Int} {Q : Value → Shared → Prop} (ht : s.heap.IsTuple p xs.toArray) (hz : xs.length ≤ sizeLine) (hi : IntsAre xs ns)
    (q : ∀ out : List Value, SrtO.Srtd SrtO.ltIv out → SrtO.Stb SrtO.ltIv out xs → Q (.ref (s.heap.objs.size + 1)) { s with heap := sortedAll s.heap xs out.toArray }) :
    wpAny (model prog w) A (call (.builtin "sorted") [.ref p]) Q E s := by
  refine Calls.call_function_entry kind_sorted plain_sorted entry_sorted (args_sorted1 _) ?_
  unfold Builtin.«sorted»
  refine wpAny_bind (m := checkCount "sorted" 1 1 _) (wpAny_pure (wpAny_bind (gather_tuple ht hz (wpAny_bind (wpAny_newList ?_ hz)))))
  have sz1 : ((s.heap.push (seqObj "list" #[] 0)).update s.heap.objs.size (Obj.mapSeq (· ++ xs.toArray))).objs.size = s.heap.objs.size + 1 := (Heap.size_update ..).trans (Heap.size_push ..)
  have hoL := Heap.get?_push_size ((s.heap.push (seqObj "list" #[] 0)).update s.heap.objs.size (Obj.mapSeq (· ++ xs.toArray))) (o := seqObj "list" xs.toArray 0) rfl
  rw [sz1] at hoL
  show wpAny _ _ _ _ _ { s with heap := ((s.heap.push (seqObj "list" #[] 0)).update s.heap.objs.size (Obj.mapSeq (· ++ xs.toArray))).push (seqObj "list" xs.toArray 0) }
  rw [sz1]
  exact wpAny_bind (wpAny_holding (wpAny_call_entry PyProof.Rows.slot_list_sort ⟨_, hoL, rfl⟩ PyProof.Rows.entry_list_sort (SrtO.list_sort_ord SrtO.swo_int hoL hz (fun h2 => SrtO.ints_sortable hi h2) fun out hs hb => ⟨_, rfl, wpAny_pure ⟨_, rfl, q out hs hb⟩⟩) (PyProof.Rows.args_list_sort _)))
end
def rSortT (K : PySem.W.Frag) : List V → Hp → VK → Prop := fun xs H Q => ∃ (a : Addr) (ns : List Int), xs = [V.ref a] ∧ SqT K H a (ns.map V.int) ∧ ∀ (ms : List Int) (p : Addr), ms.Perm ns → H p = none → Q (.ref p) (upd H p (.lst (ms.map V.int)))
theorem cr_sortTI {X : Cx} : CallR X (.builtin "sorted") (rSortT X.K) := by
  intro pins s σ H vs us Q I r h
  obtain ⟨a, ns, rfl, hs, q⟩ := h
  obtain ⟨its, rv, hl, hz⟩ := I.tuple hs
  rw [Vals.ref1 r]
  have hi := rv.ints
  refine sorted_tup hl (by rw [← rv.length]; exact hz) hi fun out h1 h2 => ?_
  obtain ⟨k1, k2, k3⟩ := SrtO.ints_out hi h1 h2
  obtain ⟨ep, he'⟩ := sortedAll_at s.heap its out.toArray
  have hlen : ((out.map SrtO.iv).map V.int).length ≤ sizeLine := by
    have := k2.length_eq
    simp only [List.length_map] at this hz ⊢
    omega
  exact ⟨.ref _, upd H (s.heap.objs.size + 1) (.lst ((out.map SrtO.iv).map V.int)), I.laid (t' := s.toks) (fun _ _ e => sortedAll_old e) (Nat.le_succ _) ⟨hlen, out, ep, vals_of_ints k1, he'⟩, rfl, q _ _ k2 (I.hok.fresh (Nat.le_succ _))⟩
end MB

set_option maxHeartbeats 4000000
namespace MB
open PySem PySem.Spec PyProof.Rows L2
/-! ### a tuple times a number from 1 on -/
theorem tuple_mul1 (l : Addr) (items : Array Value) (n : Nat) (dd : Option Addr) (sl : Array (Option Value)) (u : Tok) :
    Meets (Builtin.«tuple.__mul__» ⟨[.ref l, .int 1 u], []⟩) (fun _ R s => s.heap.get? l = some { cls := .type "tuple", dict := dd, data := .seq items n, slots := sl } ∧ R (.ok (.ret (Value.ref l))) s) :=
  .of_wp fun prog w A R s h => by
    obtain ⟨hp, g, d, tk, os⟩ := s
    obtain ⟨hl, h⟩ := h
    have f1 := AutoSeq1.idx_int
    have c1 : (items.isEmpty || ((1 : Int) == 1)) = true := by simp
    wp_walk using wpAny_loadPart' hl
    exact ⟨_, rfl, h⟩
def rRepQ (K : PySem.W.Frag) : R2 := fun x y H Q => ∃ l k xs, x = .ref l ∧ y = .int k ∧ SqT K H l xs ∧ xs ≠ [] ∧ 1 ≤ k ∧ k ≤ 1000 ∧ xs.length ≤ 1000 ∧ (k = 1 → Q (.ref l) H) ∧ ∀ p, H p = none → Q (.ref p) (upd H p (.tup (List.replicate k.toNat xs).flatten))
theorem op_repQ {X : Cx} : OpR X (binaryOp .Mult) (rRepQ X.K) := by
  intro pins s σ H x y v u Q I rx ry h
  obtain ⟨l, k, xs, rfl, rfl, hT, hne, g1, g2, hz, q1, q⟩ := h
  by_cases hk : k = 1
  · subst hk
    cases rx
    obtain ⟨t, rfl⟩ := ry
    obtain ⟨its, r, ⟨⟨cls, dd, data, sl⟩, ho, hc, n, hd⟩, hs⟩ := I.tuple hT
    simp only at hc hd
    subst hc hd
    refine wpAny_binaryOp_repeat_ref (T := "tuple") (U := "int") (by decide) ⟨_, ho, rfl⟩ (fun s' => typeIs_int s' 1 t) noFill_tuple_mul F.fills_int_mul F.slot_int_rmul repeat_tuple F.slot_int_index.lookup (call_meets F.slot_int_rmul (typeIs_int s 1 t) F.entry_int_rmul (F.args_int_rmul_2 _ _) (int_rmul_tuple 1 t l its.toArray n dd sl) ⟨ho, rfl, ⟨_, ho, rfl⟩, ?_⟩)
    exact call_meets F.slot_tuple_mul ⟨_, ho, rfl⟩ F.entry_tuple_mul (F.args_tuple_mul_2 _ _) (tuple_mul1 l its.toArray n dd sl t) ⟨ho, .ref l, H, I, rfl, q1 rfl⟩
  · exact op_repT pins s σ H _ _ v u Q I rx ry ⟨l, k, xs, rfl, rfl, hT, hne, by omega, g2, hz, q⟩
theorem rep_read {K : PySem.W.Frag} {H : Hp} {l : Addr} {k : Int} {xs : List V} {Q : VK} (h : SqT K H l xs) (hn : xs ≠ []) (h1 : 1 ≤ k) (h2 : k ≤ 1000) (hz : xs.length ≤ 1000) (q : ∀ p H', Same H H' → SqT K H' p (List.replicate k.toNat xs).flatten → Q (.ref p) H') : rRepQ K (.ref l) (.int k) H Q := by
  refine ⟨l, k, xs, rfl, rfl, h, hn, h1, h2, hz, fun e => q l H (Same.refl H) ?_, fun p np => q p _ (same_upd np) (.inl (.inl upd_same))⟩
  rw [e]
  simpa using h
end MB

set_option maxHeartbeats 4000000
namespace MB
open PySem PySem.Spec PyProof.Rows L2
/-! ### a tuple times a number from 0 on -/
theorem tuple_mul0 (l : Addr) (items : Array Value) (n : Nat) (dd : Option Addr) (sl : Array (Option Value)) (u : Tok) (hi : items.isEmpty = false) :
    Meets (Builtin.«tuple.__mul__» ⟨[.ref l, .int 0 u], []⟩) (fun _ R s => s.heap.get? l = some { cls := .type "tuple", dict := dd, data := .seq items n, slots := sl } ∧
      R (.ok (.ret (Value.ref s.heap.objs.size))) { s with heap := s.heap.push { cls := Value.type "tuple", data := Data.seq #[] } }) :=
  .of_wp fun prog w A R s h => by
    obtain ⟨hp, g, d, tk, os⟩ := s
    obtain ⟨hl, h⟩ := h
    have f1 := AutoSeq1.idx_int
    have c1 : (items.isEmpty || ((0 : Int) == 1)) = false := by rw [hi]; rfl
    have c2 : (decide ((0 : Int) ≤ 0) || items.isEmpty) = true := by simp
    wp_walk using wpAny_loadPart' hl
    repeat (first
      | (refine wpAny_ite_false (decide_eq_false (by rw [c1]; exact Bool.false_ne_true)) ?_; wp_walk using wpAny_loadPart' hl)
      | (refine wpAny_ite_true (decide_eq_true c2) ?_; wp_walk using wpAny_loadPart' hl))
    exact ⟨_, rfl, h⟩
def rRepZ (K : PySem.W.Frag) : R2 := fun x y H Q => ∃ l k xs, x = .ref l ∧ y = .int k ∧ SqT K H l xs ∧ xs ≠ [] ∧ 0 ≤ k ∧ k ≤ 1000 ∧ xs.length ≤ 1000 ∧ (k = 1 → Q (.ref l) H) ∧ ∀ p, H p = none → Q (.ref p) (upd H p (.tup (List.replicate k.toNat xs).flatten))
theorem op_repZ {X : Cx} : OpR X (binaryOp .Mult) (rRepZ X.K) := by
  intro pins s σ H x y v u Q I rx ry h
  obtain ⟨l, k, xs, rfl, rfl, hT, hne, g1, g2, hz, q1, q⟩ := h
  by_cases hk : k = 0
  · subst hk
    cases rx
    obtain ⟨t, rfl⟩ := ry
    obtain ⟨its, r, ⟨⟨cls, dd, data, sl⟩, ho, hc, n, hd⟩, hs⟩ := I.tuple hT
    simp only at hc hd
    subst hc hd
    have hle : its.length = xs.length := r.length.symm
    have hi : its.toArray.isEmpty = false := by
      cases its with
      | nil => exact absurd (List.eq_nil_of_length_eq_zero hle.symm) hne
      | cons a b => rfl
    refine wpAny_binaryOp_repeat_ref (T := "tuple") (U := "int") (by decide) ⟨_, ho, rfl⟩ (fun s' => typeIs_int s' 0 t) noFill_tuple_mul F.fills_int_mul F.slot_int_rmul repeat_tuple F.slot_int_index.lookup (call_meets F.slot_int_rmul (typeIs_int s 0 t) F.entry_int_rmul (F.args_int_rmul_2 _ _) (int_rmul_tuple 0 t l its.toArray n dd sl) ⟨ho, rfl, ⟨_, ho, rfl⟩, ?_⟩)
    refine call_meets F.slot_tuple_mul ⟨_, ho, rfl⟩ F.entry_tuple_mul (F.args_tuple_mul_2 _ _) (tuple_mul0 l its.toArray n dd sl t hi) ⟨ho, ?_⟩
    refine ⟨.ref s.heap.objs.size, _, I.laid (t' := s.toks) (o := .tup []) (fun b ob q => Heap.get?_push_of_some _ q) (Nat.le_refl _) ?_, rfl, q _ (I.hok.fresh (Nat.le_refl _))⟩
    exact ⟨Nat.zero_le _, [], .nil, IsTup.new _ _⟩
  · exact op_repQ pins s σ H _ _ v u Q I rx ry ⟨l, k, xs, rfl, rfl, hT, hne, by omega, g2, hz, q1, q⟩
theorem k_repZ {X : Cx} {K : PySem.W.Frag} (hK : X.K = K) : OpR X (binaryOp .Mult) (rRepZ K) := by subst hK; exact op_repZ
theorem repZ_read {K : PySem.W.Frag} {H : Hp} {l : Addr} {k : Nat} {xs : List V} {Q : VK} (h : SqT K H l xs) (hn : xs ≠ []) (h2 : k ≤ 1000) (hz : xs.length ≤ 1000) (q : ∀ p H', Same H H' → SqT K H' p (List.replicate k xs).flatten → Q (.ref p) H') : rRepZ K (.ref l) (.int (k : Int)) H Q := by
  refine ⟨l, (k : Int), xs, rfl, rfl, h, hn, by omega, by omega, hz, fun e => q l H (Same.refl H) ?_, fun p np => q p _ (same_upd np) (by rw [Int.toNat_natCast]; exact .inl (.inl upd_same))⟩
  have : k = 1 := by omega
  rw [this]
  simpa using h
end MB

set_option maxHeartbeats 4000000
namespace MB
open PySem PySem.Spec PyProof.Rows L2
/-! ### a tuple from its end: t[::-1] -/
theorem adj_rev (n : Nat) : Builtin.Slice.sliceAdjust none none (-1) (n : Int) = ((n : Int) - 1, -1) := rfl
theorem places_rev (n : Nat) : Builtin.Slice.slicePlaces ((n : Int) - 1) (-1) (-1) = n := by
  unfold Builtin.Slice.slicePlaces
  have h1 : ¬ ((-1 : Int) > 0) := by omega
  simp only [h1, if_false]
  have h2 : -(-1 : Int) = 1 := by decide
  rw [h2, Int.ediv_one]
  split <;> omega
theorem pick_rev (xs : Array Value) : ((List.range xs.size).filterMap fun (k : Nat) => xs[(((xs.size : Int) - 1) + (k : Int) * (-1)).toNat]?).toArray = xs.toList.reverse.toArray := by
  congr 1
  have key : ∀ k, k < xs.size → xs[(((xs.size : Int) - 1) + (k : Int) * (-1)).toNat]? = some (xs.toList.reverse.getD k .none) := fun k hk => by
    have e : (((xs.size : Int) - 1) + (k : Int) * (-1)).toNat = xs.size - 1 - k := by omega
    have hl : k < xs.toList.reverse.length := by simpa using hk
    rw [e, List.getD_eq_getElem?_getD, List.getElem?_eq_getElem hl, Option.getD_some, List.getElem_reverse]
    rw [Array.getElem?_eq_getElem (by omega)]
    simp
  have h2 : (List.range xs.size).filterMap (fun (k : Nat) => xs[(((xs.size : Int) - 1) + (k : Int) * (-1)).toNat]?) = (List.range xs.size).map fun k => xs.toList.reverse.getD k .none := by
    have aux : ∀ (l : List Nat), (∀ k, k ∈ l → k < xs.size) → l.filterMap (fun (k : Nat) => xs[(((xs.size : Int) - 1) + (k : Int) * (-1)).toNat]?) = l.map fun k => xs.toList.reverse.getD k .none := by
      intro l
      induction l with
      | nil => intro _; rfl
      | cons a l ih =>
        intro h
        rw [List.filterMap_cons, key a (h a (List.mem_cons_self ..)), ih fun k hk => h k (List.mem_cons_of_mem _ hk)]
        rfl
    exact aux _ fun k hk => List.mem_range.mp hk
  rw [h2]
  refine List.ext_getElem (by simp) fun k h3 h4 => ?_
  rw [List.getElem_map, List.getElem_range, List.getD_eq_getElem?_getD, List.getElem?_eq_getElem h4, Option.getD_some]
section
variable {prog : Program} {w : World} {A : Around} {E : Value → Shared → Prop} {s : Shared}
theorem applied_rev {sl : Addr} {vl vu vs : Value} {n : Nat} {Q : Int × Int × Nat → Shared → Prop} (hs : s.heap.IsSliceOf sl vl vu vs) (pl : IsPart vl none) (pu : IsPart vu none) (ps : IsPart vs (some (-1)))
    (h : Q ((n : Int) - 1, -1, n) s) : wpAny (model prog w) A (Builtin.Slice.sliceApplied (.ref sl) (pure (n : Int))) Q E s := by
  obtain ⟨os, hos, hcs, hds⟩ := id hs
  unfold Builtin.Slice.sliceApplied Builtin.Slice.sliceFields
  refine wpAny_bind (wpAny_bind (wpAny_field hos hds (x := vl) rfl (wpAny_bind (wpAny_field hos hds (x := vu) rfl (wpAny_bind (wpAny_field hos hds (x := vs) rfl (wpAny_pure ?_)))))))
  refine wpAny_bind (HT.slicePart_ ps ?_)
  show wpAny _ _ (if ((-1 : Int) == 0) = true then _ else _) _ _ s
  rw [if_neg (by decide)]
  refine wpAny_bind (HT.slicePart_ pl (wpAny_bind (HT.slicePart_ pu (wpAny_bind (wpAny_pure ?_)))))
  show wpAny _ _ (match Builtin.Slice.sliceAdjust none none (-1) (n : Int) with | (lo, hi) => pure (lo, (-1 : Int), Builtin.Slice.slicePlaces lo hi (-1))) _ _ s
  rw [adj_rev]
  show wpAny _ _ (pure ((n : Int) - 1, (-1 : Int), Builtin.Slice.slicePlaces ((n : Int) - 1) (-1) (-1))) _ _ s
  rw [places_rev]
  exact wpAny_pure h
theorem getItem_rev {t sl : Addr} {items : Array Value} {vl vu vs : Value} {Q : Value → Shared → Prop} (ht : IsTup s.heap t items) (hs : s.heap.IsSliceOf sl vl vu vs) (pl : IsPart vl none) (pu : IsPart vu none) (ps : IsPart vs (some (-1)))
    (h : Q (.ref s.heap.objs.size) { s with heap := s.heap.push { cls := .type "tuple", data := .seq items.toList.reverse.toArray } }) (hsz : items.size ≤ sizeLine) : wpAny (model prog w) A (getItem (.ref t) (.ref sl)) Q E s := by
  have hok : sizeOk (.seq items.toList.reverse.toArray) := by
    show items.toList.reverse.toArray.size ≤ sizeLine
    simpa using hsz
  obtain ⟨os, hos, hcs, hds⟩ := id hs
  have hTs : s.TypeIs (.ref sl) "slice" := ⟨os, hos, hcs⟩
  unfold getItem
  (try with_reducible refine wpAny_holding ?_)
  (first | refine wpAny_bind (wpAny_pure ?_) | skip)
  refine wpAny_bind (wpAny_sequenceKey ht.typeIs (by decide) (wpAny_bind (wpAny_callSpecial?_slot (name := Str.ofString "__getitem__") ht.typeIs PyProof.Rows.slot_tuple_getitem (wpAny_call_entry PyProof.Rows.slot_tuple_getitem ht.typeIs entry_tuple_getitem ?_ (args_tuple_getitem _ _)))))
  show wpAny _ _ (Builtin.Tuple.tupleItemsOf (.ref t) >>= _) _ _ s
  refine wpAny_bind (tupleItemsOf_ ht (wpAny_bind (wpAny_typeOf hTs ?_)))
  rw [if_pos (by decide)]
  refine wpAny_bind (applied_rev hs pl pu ps ?_)
  show wpAny _ _ (if (((items.size : Int) - 1) == 0 && (-1 : Int) == 1 && items.size == items.size) = true then _ else _) _ _ s
  rw [if_neg (by simp), pick_rev]
  exact wpAny_bind (m := Builtin.Tuple.tupleExact _) (wpAny_newObj_type (wpAny_pure ⟨_, rfl, wpAny_pure h⟩) hok)
end
def tRevT (K : PySem.W.Frag) (te : TE) : TE := fun σ H Q => te σ H fun x H1 => ∃ a xs, x = .ref a ∧ SqT K H1 a xs ∧ ∀ p, H1 p = none → Q (.ref p) (upd H1 p (.tup xs.reverse))
theorem pe_revT {X : Cx} {K : PySem.W.Frag} (hK : X.K = K) {e : Expr} {te : TE} {k : Nat} {p1 p2 p3 pos : PySem.Pos} (he : PE X e te) : PE X (.Subscript e (.Slice none none (some (.UnaryOp .USub (.Constant (.int 1) k p1) p2)) p3) pos) (tRevT K te) := by
  subst hK
  refine ⟨fun pins s σ H Q I h => ?_⟩
  refine Subscript_ (thn (he.run pins s σ H _ I h) fun v s1 ⟨x, H1, I1, r1, q1⟩ => ?_)
  obtain ⟨a, xs, rfl, hx, q⟩ := q1
  cases r1
  have hst : PO X (some (.UnaryOp .USub (.Constant (.int 1) k p1) p2)) (tPart (tUn (rU fun i => .int (-i)) (tC (.int 1)))) := po_some (pe_un un_neg pe_int)
  refine wpAny_Slice (thn (po_none.run pins s1 σ H1 (fun o H2 => o = none ∧ H2 = H1) I1 ⟨rfl, rfl⟩) fun vl s2 ⟨lo, H2, I2, pl, elo, eH⟩ => ?_)
  cases elo; cases eH
  refine thn (po_none.run pins s2 σ H1 (fun o H3 => o = none ∧ H3 = H1) I2 ⟨rfl, rfl⟩) fun vu s3 ⟨hi, H3, I3, pu, ehi, eH⟩ => ?_
  cases ehi; cases eH
  refine thn (hst.run pins s3 σ H1 (fun o H4 => o = some (-1) ∧ H4 = H1) I3 ⟨1, rfl, -1, rfl, rfl, rfl⟩) fun vs s4 ⟨st, H4, I4, ps, est, eH⟩ => ?_
  cases est; cases eH
  have I5 : Inv X pins σ H1 { s4 with heap := s4.heap.push { cls := .type "slice", data := .fields #[vl, vu, vs] } } := I4.kept (t' := s4.toks) fun b ob e => Heap.get?_push_of_some _ e
  obtain ⟨its, r, ht, hz⟩ := I5.tuple hx
  have hlen := r.length
  show wpAny (model X.prog X.w) X.A (subscriptTail e (.Slice none none (some (.UnaryOp .USub (.Constant (.int 1) k p1) p2)) p3) (.ref a) (.ref s4.heap.objs.size)) (EP X pins σ Q) X.xe { s4 with heap := s4.heap.push { cls := .type "slice", data := .fields #[vl, vu, vs] } }
  refine tail_any (ops := [.ref a, .ref s4.heap.objs.size]) ht.typeIs (PyProof.Rows.slot_tuple_getitem.lookup) ?_ (by with_unfolding_all rfl)
  refine getItem_rev ht (Heap.IsSliceOf.new _ vl vu vs) pl pu ps ?_ (by rw [List.size_toArray]; omega)
  refine ⟨.ref _, _, I5.laid (t' := s4.toks) (o := .tup xs.reverse) (fun b ob e => Heap.get?_push_of_some _ e) (Nat.le_refl _) ?_, rfl, q _ (I5.hok.fresh (Nat.le_refl _))⟩
  exact ⟨by rw [List.length_reverse]; exact hz, its.reverse, r.reverse, IsTup.new _ _⟩
end MB

set_option maxHeartbeats 4000000
namespace MB
open PySem PySem.Spec PyProof.Rows L2
/-! ### a body whose first statement never ends in order -/
theorem pss_stop {X : Cx} {st : Stmt} {rest : List Stmt} {t : TS} (h1 : PS X st t) : PSs X (st :: rest) (fun D σ H => t { D with nx := fun _ _ => False } σ H) := by
  refine ⟨fun pins s σ H D I h => ?_⟩
  refine wpAny_execs_cons (thn (h1.run pins s σ H { D with nx := fun _ _ => False } I h) fun f s1 q => ?_)
  cases f with
  | next =>
    obtain ⟨_, _, _, q⟩ := q
    exact q.elim
  | ret v => exact q
  | brk => exact q
  | cont => exact q
/-! ### texts of data are texts -/
theorem strOk_of (s : String) : PyData.strOk (Str.ofString s) = true := by
  rw [Str.ofString_eq_toList]
  unfold PyData.strOk
  rw [← Array.all_toList, List.all_eq_true]
  intro c hc
  obtain ⟨z, _, rfl⟩ := List.mem_map.mp hc
  refine decide_eq_true ?_
  have h := z.valid
  have e : z.toNat = z.val.toNat := rfl
  rcases h with h | h
  · exact Nat.lt_trans (show z.toNat < 0xd800 from h) (by decide)
  · exact h.2
theorem strOk_app {a b : Str} (h1 : PyData.strOk a = true) (h2 : PyData.strOk b = true) : PyData.strOk (a ++ b) = true := by
  show (a.cps ++ b.cps).all _ = true
  rw [Array.all_append]
  rw [Bool.and_eq_true]
  exact ⟨h1, h2⟩
theorem strOk_join {sep : Str} (hs : PyData.strOk sep = true) : ∀ {ts : List Str}, (∀ t, t ∈ ts → PyData.strOk t = true) → PyData.strOk (Str.join sep ts) = true
  | [], _ => by show PyData.strOk Str.empty = true; decide +kernel
  | [x], h => h x (List.mem_cons_self ..)
  | x :: y :: r, h => by
    show PyData.strOk (x ++ sep ++ Str.join sep (y :: r)) = true
    exact strOk_app (strOk_app (h x (List.mem_cons_self ..)) hs) (strOk_join hs fun t ht => h t (List.mem_cons_of_mem _ ht))
theorem strOk_from : ∀ {ts : List Str} {k : Nat} {acc : Str}, PyData.strOk acc = true → (∀ t, t ∈ ts → PyData.strOk t = true) → PyData.strOk (textFrom k acc ts) = true
  | [], _, _, h, _ => h
  | t :: r, k, acc, h, ht => by
    refine strOk_from (ts := r) (k := k + 1) (acc := acc ++ (if k > 0 then ", " else "" : String) ++ t) (strOk_app (strOk_app h (strOk_of _)) (ht t (List.mem_cons_self ..))) fun x hx => ht x (List.mem_cons_of_mem _ hx)
theorem k_reprD {X : Cx} {K : PySem.W.Frag} (e : X.K = K) (hgd : X.A.guards = some []) (hu : X.A.units + 64 < cLine) : CallR X (.builtin "repr") (rReprD K) := by
  rw [← e]; exact call_reprD hgd hu
def SOk (d : PyData) : Prop := PyData.strOk d.shown = true
theorem shownAll_map : ∀ ds : List PyData, PyData.shownAll ds = ds.map PyData.shown
  | [] => rfl
  | d :: ds => by simp only [PyData.shownAll, List.map_cons, shownAll_map ds]
theorem SOk.int {i : Int} : SOk (.int i) := by unfold SOk; simp only [PyData.shown]; exact strOk_of _
theorem SOk.none : SOk .none := by unfold SOk; simp only [PyData.shown]; exact strOk_of _
theorem SOk.bool {b : Bool} : SOk (.bool b) := by unfold SOk; simp only [PyData.shown]; cases b <;> exact strOk_of _
theorem SOk.tup {ds : List PyData} (h : ∀ d, d ∈ ds → SOk d) : SOk (.tuple ds) := by
  unfold SOk
  simp only [PyData.shown]
  rw [shownAll_map]
  unfold tupleText
  refine strOk_app (strOk_app (strOk_of _) (strOk_join (strOk_of _) fun t ht => ?_)) (strOk_of _)
  obtain ⟨d, hd, rfl⟩ := List.mem_map.mp ht
  exact h d hd
theorem SOk.lst {ds : List PyData} (h : ∀ d, d ∈ ds → SOk d) : SOk (.list ds) := by
  unfold SOk
  simp only [PyData.shown]
  rw [shownAll_map]
  unfold listText
  refine strOk_app (strOk_from (strOk_of _) fun t ht => ?_) (strOk_of _)
  obtain ⟨d, hd, rfl⟩ := List.mem_map.mp ht
  exact h d hd
theorem SOk.ints {ns : List Int} : ∀ d, d ∈ ns.map PyData.int → SOk d := fun d hd => by
  obtain ⟨i, _, rfl⟩ := List.mem_map.mp hd
  exact .int
theorem SOk.dic1 {x : Str} {d : PyData} (hx : SOk (.str x)) (h : SOk d) : SOk (.dict [(.str x, d)]) := by
  unfold SOk at *
  simp only [PyData.shown, PyData.shownKv] at *
  unfold dictText
  exact strOk_app (strOk_app (strOk_of _) (strOk_join (strOk_of _) fun t ht => by
    rw [List.mem_singleton.mp ht]
    exact strOk_app (strOk_app hx (strOk_of _)) h)) (strOk_of _)
theorem Sh.str {x : Str} {k : Nat} (h : PyData.strOk x = true) : Sh k (.str x) := ⟨by simp only [PyData.canLay0]; exact h, by simp [PyData.depth]⟩
end MB

set_option maxHeartbeats 4000000
namespace MB
open PySem PySem.Spec PyProof.Rows L2
def topS (i : Nat) : Stmt := PySem.Challenge.pw_mergebudget_k10_indexes_of_long_schedule.main.body.getD i (.Pass ⟨0, 0, 0, 0⟩)
abbrev s_is_int : Stmt := topS 6
abbrev N_is_int : List Str := ["value"]
theorem sc_is_int : FnScope N_is_int ["value"] (defScope s_is_int) := ⟨rfl, rfl, rfl, by decide +kernel, rfl, by decide +kernel, by decide +kernel⟩
abbrev s_is_count : Stmt := topS 7
abbrev N_is_count : List Str := ["value"]
theorem sc_is_count : FnScope N_is_count ["value"] (defScope s_is_count) := ⟨rfl, rfl, rfl, by decide +kernel, rfl, by decide +kernel, by decide +kernel⟩
abbrev s_is_count_up_to : Stmt := topS 8
abbrev N_is_count_up_to : List Str := ["value", "most"]
theorem sc_is_count_up_to : FnScope N_is_count_up_to ["value", "most"] (defScope s_is_count_up_to) := ⟨rfl, rfl, rfl, by decide +kernel, rfl, by decide +kernel, by decide +kernel⟩
abbrev s_is_schedule : Stmt := topS 11
abbrev N_is_schedule : List Str := ["value", "runs", "merge"]
theorem sc_is_schedule : FnScope N_is_schedule ["value"] (defScope s_is_schedule) := ⟨rfl, rfl, rfl, by decide +kernel, rfl, by decide +kernel, by decide +kernel⟩
abbrev s_count_schedules : Stmt := topS 13
abbrev N_count_schedules : List Str := ["n"]
theorem sc_count_schedules : FnScope N_count_schedules ["n"] (defScope s_count_schedules) := ⟨rfl, rfl, rfl, by decide +kernel, rfl, by decide +kernel, by decide +kernel⟩
abbrev s_check_flushes : Stmt := topS 14
abbrev N_check_flushes : List Str := ["n"]
theorem sc_check_flushes : FnScope N_check_flushes ["n"] (defScope s_check_flushes) := ⟨rfl, rfl, rfl, by decide +kernel, rfl, by decide +kernel, by decide +kernel⟩
abbrev s_continuations : Stmt := topS 15
abbrev N_continuations : List Str := ["n", "rows", "row", "total", "ways"]
theorem sc_continuations : FnScope N_continuations ["n"] (defScope s_continuations) := ⟨rfl, rfl, rfl, by decide +kernel, rfl, by decide +kernel, by decide +kernel⟩
abbrev s_index_of : Stmt := topS 16
abbrev N_index_of : List Str := ["schedule", "rows", "before", "runs", "flush", "merge", "ways", "left"]
theorem sc_index_of : FnScope N_index_of ["schedule"] (defScope s_index_of) := ⟨rfl, rfl, rfl, by decide +kernel, rfl, by decide +kernel, by decide +kernel⟩
abbrev s_schedule_at : Stmt := topS 17
abbrev N_schedule_at : List Str := ["n", "index", "rows", "merges", "runs", "before", "flush", "ways", "left"]
theorem sc_schedule_at : FnScope N_schedule_at ["n", "index"] (defScope s_schedule_at) := ⟨rfl, rfl, rfl, by decide +kernel, rfl, by decide +kernel, by decide +kernel⟩
abbrev s_L_pot : Stmt := topS 19
abbrev N_L_pot : List Str := ["_law_script", "_law_place", "_law_cell", "_law_digits"]
theorem sc_L_pot : FnScope N_L_pot ["_law_script", "_law_place"] (defScope s_L_pot) := ⟨rfl, rfl, rfl, by decide +kernel, rfl, by decide +kernel, by decide +kernel⟩
abbrev s_L_take : Stmt := topS 20
abbrev N_L_take : List Str := ["_law_pot", "_law_size", "_law_digit", "_law_turn", "_law_prime", "_law_mixed"]
theorem sc_L_take : FnScope N_L_take ["_law_pot", "_law_size"] (defScope s_L_take) := ⟨rfl, rfl, rfl, by decide +kernel, rfl, by decide +kernel, by decide +kernel⟩
abbrev s_L_of : Stmt := topS 21
abbrev N_L_of : List Str := ["_law_pot", "_law_options"]
theorem sc_L_of : FnScope N_L_of ["_law_pot", "_law_options"] (defScope s_L_of) := ⟨rfl, rfl, rfl, by decide +kernel, rfl, by decide +kernel, by decide +kernel⟩
abbrev s_L_drawn : Stmt := topS 22
abbrev N_L_drawn : List Str := ["_law_pot", "_law_size", "_law_way", "_law_found", "_law_runs", "_law_flush", "_law_options", "_law_merge"]
theorem sc_L_drawn : FnScope N_L_drawn ["_law_pot", "_law_size"] (defScope s_L_drawn) := ⟨rfl, rfl, rfl, by decide +kernel, rfl, by decide +kernel, by decide +kernel⟩
abbrev s_L_is_count : Stmt := topS 23
abbrev N_L_is_count : List Str := ["_law_item", "_law_most"]
theorem sc_L_is_count : FnScope N_L_is_count ["_law_item", "_law_most"] (defScope s_L_is_count) := ⟨rfl, rfl, rfl, by decide +kernel, rfl, by decide +kernel, by decide +kernel⟩
abbrev s_L_valid : Stmt := topS 24
abbrev N_L_valid : List Str := ["_law_item", "_law_runs", "_law_merge"]
theorem sc_L_valid : FnScope N_L_valid ["_law_item"] (defScope s_L_valid) := ⟨rfl, rfl, rfl, by decide +kernel, rfl, by decide +kernel, by decide +kernel⟩
abbrev s_L_numbers : Stmt := topS 25
abbrev N_L_numbers : List Str := ["_law_size", "_law_found", "_law_many", "_law_left"]
theorem sc_L_numbers : FnScope N_L_numbers ["_law_size"] (defScope s_L_numbers) := ⟨rfl, rfl, rfl, by decide +kernel, rfl, by decide +kernel, by decide +kernel⟩
abbrev s_L_next : Stmt := topS 26
abbrev N_L_next : List Str := ["_law_plan", "_law_at"]
theorem sc_L_next : FnScope N_L_next ["_law_plan"] (defScope s_L_next) := ⟨rfl, rfl, rfl, by decide +kernel, rfl, by decide +kernel, by decide +kernel⟩
abbrev s_L_right : Stmt := topS 27
abbrev N_L_right : List Str := ["_law_size", "_law_index", "_law_total", "_law_plan", "_law_later"]
theorem sc_L_right : FnScope N_L_right ["_law_size", "_law_index", "_law_total"] (defScope s_L_right) := ⟨rfl, rfl, rfl, by decide +kernel, rfl, by decide +kernel, by decide +kernel⟩
abbrev s_law : Stmt := topS 28
abbrev N_law : List Str := ["_law_script", "_law_totals", "_law_place", "_law_pot", "_law_turn", "_law_size", "_law_total", "_law_index", "_law_plan"]
theorem sc_law : FnScope N_law ["_law_script"] (defScope s_law) := ⟨rfl, rfl, rfl, by decide +kernel, rfl, by decide +kernel, by decide +kernel⟩
structure Tx (K : PySem.W.Frag) (mg : Str → Option Value) where
  a_is_int : Addr
  fd_is_int : FuncData
  f_is_int : Fun K "is_int" "is_int" s_is_int a_is_int fd_is_int
  g_is_int : mg "is_int" = some (.ref a_is_int)
  bd_is_int : Binds K fd_is_int ["value"] []
  a_is_count : Addr
  fd_is_count : FuncData
  f_is_count : Fun K "is_count" "is_count" s_is_count a_is_count fd_is_count
  g_is_count : mg "is_count" = some (.ref a_is_count)
  bd_is_count : Binds K fd_is_count ["value"] []
  a_is_count_up_to : Addr
  fd_is_count_up_to : FuncData
  f_is_count_up_to : Fun K "is_count_up_to" "is_count_up_to" s_is_count_up_to a_is_count_up_to fd_is_count_up_to
  g_is_count_up_to : mg "is_count_up_to" = some (.ref a_is_count_up_to)
  bd_is_count_up_to : Binds K fd_is_count_up_to ["value", "most"] []
  a_is_schedule : Addr
  fd_is_schedule : FuncData
  f_is_schedule : Fun K "is_schedule" "is_schedule" s_is_schedule a_is_schedule fd_is_schedule
  g_is_schedule : mg "is_schedule" = some (.ref a_is_schedule)
  bd_is_schedule : Binds K fd_is_schedule ["value"] []
  a_count_schedules : Addr
  fd_count_schedules : FuncData
  f_count_schedules : Fun K "count_schedules" "count_schedules" s_count_schedules a_count_schedules fd_count_schedules
  g_count_schedules : mg "count_schedules" = some (.ref a_count_schedules)
  bd_count_schedules : Binds K fd_count_schedules ["n"] []
  a_check_flushes : Addr
  fd_check_flushes : FuncData
  f_check_flushes : Fun K "check_flushes" "check_flushes" s_check_flushes a_check_flushes fd_check_flushes
  g_check_flushes : mg "check_flushes" = some (.ref a_check_flushes)
  bd_check_flushes : Binds K fd_check_flushes ["n"] []
  a_continuations : Addr
  fd_continuations : FuncData
  f_continuations : Fun K "continuations" "continuations" s_continuations a_continuations fd_continuations
  g_continuations : mg "continuations" = some (.ref a_continuations)
  bd_continuations : Binds K fd_continuations ["n"] []
  a_index_of : Addr
  fd_index_of : FuncData
  f_index_of : Fun K "index_of" "index_of" s_index_of a_index_of fd_index_of
  g_index_of : mg "index_of" = some (.ref a_index_of)
  bd_index_of : Binds K fd_index_of ["schedule"] []
  a_schedule_at : Addr
  fd_schedule_at : FuncData
  f_schedule_at : Fun K "schedule_at" "schedule_at" s_schedule_at a_schedule_at fd_schedule_at
  g_schedule_at : mg "schedule_at" = some (.ref a_schedule_at)
  bd_schedule_at : Binds K fd_schedule_at ["n", "index"] []
  a_L_pot : Addr
  fd_L_pot : FuncData
  f_L_pot : Fun K "_law_sched_pot" "_law_sched_pot" s_L_pot a_L_pot fd_L_pot
  g_L_pot : mg "_law_sched_pot" = some (.ref a_L_pot)
  bd_L_pot : Binds K fd_L_pot ["_law_script", "_law_place"] []
  a_L_take : Addr
  fd_L_take : FuncData
  f_L_take : Fun K "_law_sched_take" "_law_sched_take" s_L_take a_L_take fd_L_take
  g_L_take : mg "_law_sched_take" = some (.ref a_L_take)
  bd_L_take : Binds K fd_L_take ["_law_pot", "_law_size"] []
  a_L_of : Addr
  fd_L_of : FuncData
  f_L_of : Fun K "_law_sched_of" "_law_sched_of" s_L_of a_L_of fd_L_of
  g_L_of : mg "_law_sched_of" = some (.ref a_L_of)
  bd_L_of : Binds K fd_L_of ["_law_pot", "_law_options"] []
  a_L_drawn : Addr
  fd_L_drawn : FuncData
  f_L_drawn : Fun K "_law_sched_drawn" "_law_sched_drawn" s_L_drawn a_L_drawn fd_L_drawn
  g_L_drawn : mg "_law_sched_drawn" = some (.ref a_L_drawn)
  bd_L_drawn : Binds K fd_L_drawn ["_law_pot", "_law_size"] []
  a_L_is_count : Addr
  fd_L_is_count : FuncData
  f_L_is_count : Fun K "_law_sched_is_count" "_law_sched_is_count" s_L_is_count a_L_is_count fd_L_is_count
  g_L_is_count : mg "_law_sched_is_count" = some (.ref a_L_is_count)
  bd_L_is_count : Binds K fd_L_is_count ["_law_item", "_law_most"] []
  a_L_valid : Addr
  fd_L_valid : FuncData
  f_L_valid : Fun K "_law_sched_valid" "_law_sched_valid" s_L_valid a_L_valid fd_L_valid
  g_L_valid : mg "_law_sched_valid" = some (.ref a_L_valid)
  bd_L_valid : Binds K fd_L_valid ["_law_item"] []
  a_L_numbers : Addr
  fd_L_numbers : FuncData
  f_L_numbers : Fun K "_law_sched_numbers" "_law_sched_numbers" s_L_numbers a_L_numbers fd_L_numbers
  g_L_numbers : mg "_law_sched_numbers" = some (.ref a_L_numbers)
  bd_L_numbers : Binds K fd_L_numbers ["_law_size"] []
  a_L_next : Addr
  fd_L_next : FuncData
  f_L_next : Fun K "_law_sched_next" "_law_sched_next" s_L_next a_L_next fd_L_next
  g_L_next : mg "_law_sched_next" = some (.ref a_L_next)
  bd_L_next : Binds K fd_L_next ["_law_plan"] []
  a_L_right : Addr
  fd_L_right : FuncData
  f_L_right : Fun K "_law_sched_right" "_law_sched_right" s_L_right a_L_right fd_L_right
  g_L_right : mg "_law_sched_right" = some (.ref a_L_right)
  bd_L_right : Binds K fd_L_right ["_law_size", "_law_index", "_law_total"] []
  a_law : Addr
  fd_law : FuncData
  f_law : Fun K "law" "law" s_law a_law fd_law
  g_law : mg "law" = some (.ref a_law)
  bd_law : Binds K fd_law ["_law_script"] []
  b_isinstance : mg "isinstance" = none
  b_int : mg "int" = none
  b_bool : mg "bool" = none
  b_tuple : mg "tuple" = none
  b_len : mg "len" = none
  b_enumerate : mg "enumerate" = none
  b_sum : mg "sum" = none
  b_range : mg "range" = none
  b_abs : mg "abs" = none
  b_min : mg "min" = none
  b_max : mg "max" = none
  b_all : mg "all" = none
  t_MOST_FLUSHES : Tok
  c_MOST_FLUSHES : mg "MOST_FLUSHES" = some (.int (60) t_MOST_FLUSHES)
section
variable {P : Program} {w : World} {K : PySem.W.Frag} {mg : Str → Option Value} {base : Heap}
def sp_is_int (K : PySem.W.Frag) : Sp := fun vs H Q _ => ∃ i : Int, vs = [.int i] ∧ Q (.bl true) H
theorem ok_is_int (TX : Tx K mg) : FnOk P w K mg base CX0 1 TX.a_is_int TX.fd_is_int ["value"] (sp_is_int K) := by
  refine TX.f_is_int.ok sc_is_int (fun vs H Q E h => ?_) (fun cdv A outer s H vs Q E hr h => ?_)
  · obtain ⟨i, rfl, _⟩ := h; rfl
  · obtain ⟨i, rfl, q⟩ := h
    refine ⟨_, (pss_one (ps_ret (pe_and (pe_callB (id := "isinstance") (k_isi (K := K) rfl) (by rfl) TX.b_isinstance (by decide +kernel) (pa_cons (pv 0) (pa_cons (pe_bltn (v := .ty "int") (by rfl) TX.b_int (by decide +kernel) rfl) pa_nil))) (pe_one (pe_not (pe_callB (id := "isinstance") (k_isi (K := K) rfl) (by rfl) TX.b_isinstance (by decide +kernel) (pa_cons (pv 0) (pa_cons (pe_bltn (v := .ty "bool") (by rfl) TX.b_bool (by decide +kernel) rfl) pa_nil)))))))), ?_⟩
    refine ⟨.int i, rfl, .int i, .ty "int", .type "int", .type "int", true, rfl, .ty _, .base (.int i), kit_ty (by decide +kernel), true, rfl, ?_⟩
    exact iteT ⟨.int i, rfl, .int i, .ty "bool", .type "int", .type "bool", false, rfl, .ty _, .base (.int i), kit_ty (by decide +kernel), false, rfl, q⟩
def sp_is_count (K : PySem.W.Frag) : Sp := fun vs H Q _ => ∃ i : Int, vs = [.int i] ∧ Q (.bl (decide (0 ≤ i))) H
theorem ok_is_count (TX : Tx K mg) : FnOk P w K mg base CX0 2 TX.a_is_count TX.fd_is_count ["value"] (sp_is_count K) := by
  refine TX.f_is_count.ok sc_is_count (fun vs H Q E h => ?_) (fun cdv A outer s H vs Q E hr h => ?_)
  · obtain ⟨i, rfl, _⟩ := h; rfl
  · obtain ⟨i, rfl, q⟩ := h
    refine ⟨_, (pss_one (ps_ret (pe_and (pe_call (ok_is_int TX) (hr.mono (by decide)) (by rfl) TX.g_is_int TX.f_is_int.kp TX.bd_is_int .nil pass0 (pa_cons (pv 0) pa_nil)) (pe_one (pe_cmpR op_ge (pv 0) pe_int (nomark _)))))), ?_⟩
    exact ⟨.int i, rfl, i, rfl, true, rfl, iteT ⟨.int i, rfl, i, 0, rfl, rfl, q⟩⟩
def sp_is_count_up_to (K : PySem.W.Frag) : Sp := fun vs H Q _ => ∃ i m : Int, vs = [.int i, .int m] ∧ Q (.bl (decide (0 ≤ i) && decide (i ≤ m))) H
theorem ok_is_count_up_to (TX : Tx K mg) : FnOk P w K mg base CX0 3 TX.a_is_count_up_to TX.fd_is_count_up_to ["value", "most"] (sp_is_count_up_to K) := by
  refine TX.f_is_count_up_to.ok sc_is_count_up_to (fun vs H Q E h => ?_) (fun cdv A outer s H vs Q E hr h => ?_)
  · obtain ⟨i, m, rfl, _⟩ := h; rfl
  · obtain ⟨i, m, rfl, q⟩ := h
    refine ⟨_, (pss_one (ps_ret (pe_and (pe_call (ok_is_count TX) (hr.mono (by decide)) (by rfl) TX.g_is_count TX.f_is_count.kp TX.bd_is_count .nil pass0 (pa_cons (pv 0) pa_nil)) (pe_one (pe_cmpR op_le (pv 0) (pv 1) (nomark _)))))), ?_⟩
    refine ⟨.int i, rfl, i, rfl, _, rfl, ?_⟩
    by_cases h0 : 0 ≤ i
    · rw [decide_eq_true h0] at q ⊢
      exact iteT ⟨.int i, rfl, .int m, rfl, i, m, rfl, rfl, q⟩
    · rw [decide_eq_false h0] at q ⊢
      exact iteF q
end
section
variable {P : Program} {w : World} {K : PySem.W.Frag} {mg : Str → Option Value} {base : Heap}
/-- a schedule, with the number of runs before each flush -/
def SchR (p : List Nat) (r : Nat → Nat) : Prop := r 0 = 0 ∧ ∀ i m, p[i]? = some m → m ≤ r i ∧ r (i + 1) = r i - m + 1
def sp_is_schedule (K : PySem.W.Frag) : Sp := fun vs H Q _ => ∃ (a : Addr) (p : List Nat) (r : Nat → Nat), vs = [.ref a] ∧ SqT K H a (vi p) ∧ p.length ≤ 60 ∧ SchR p r ∧ Q (.bl true) H
theorem ok_is_schedule (TX : Tx K mg) : FnOk P w K mg base CX0 4 TX.a_is_schedule TX.fd_is_schedule ["value"] (sp_is_schedule K) := by
  refine TX.f_is_schedule.ok sc_is_schedule (fun vs H Q E h => ?_) (fun cdv A outer s H vs Q E hr h => ?_)
  · obtain ⟨a, p, r, rfl, _⟩ := h; rfl
  · obtain ⟨a, p, r, rfl, hS, hz, ⟨hr0, hr1⟩, q⟩ := h
    refine ⟨_, (pss_cons (ps_if (PW.pt (pw_or (pt_not (pt_val (pe_callB (id := "isinstance") (k_isi (K := K) rfl) (by rfl) TX.b_isinstance (by decide +kernel) (pa_cons (pv 0) (pa_cons (pe_bltn (v := .ty "tuple") (by rfl) TX.b_tuple (by decide +kernel) rfl) pa_nil))))) (pw_or1 (pt_cmpR op_gt (pe_callB (id := "len") (k_len (K := K) rfl) (by rfl) TX.b_len (by decide +kernel) (pa_cons (pv 0) pa_nil)) (pe_glob (v := .int (60)) (by rfl) TX.c_MOST_FLUSHES ⟨_, rfl⟩) (nomark _)))))
        (pss_one (ps_ret pe_bl))
        pss_nil)
      (pss_cons (ps_set (i := 1) sc_is_schedule.nd rfl (.inl rfl) pe_int)
      (pss_cons (ps_for PassesOwn.never rfl (k_piT (K := K) rfl (pv 0)) (pg_name (i := 2) sc_is_schedule.nd rfl (.inl rfl))
        (pss_cons (ps_if (pt_not (pt_val (pe_call (ok_is_count_up_to TX) (hr.mono (by decide)) (by rfl) TX.g_is_count_up_to TX.f_is_count_up_to.kp TX.bd_is_count_up_to .nil pass0 (pa_cons (pv 2) (pa_cons (pv 1) pa_nil)))))
          (pss_one (ps_ret pe_bl))
          pss_nil)
        (pss_one (ps_set (i := 1) sc_is_schedule.nd rfl (.inl rfl) (pe_op op_add (pe_op op_sub (pv 1) (pv 2)) pe_int)))))
      (pss_one (ps_ret pe_bl))))), ?_⟩
    refine ⟨.ref a, rfl, .ref a, .ty "tuple", .type "tuple", .type "tuple", true, rfl, .ty _, ty_tup hS, kit_ty (by decide +kernel), true, rfl, iteF ⟨.ref a, rfl, a, _, rfl, .inr hS, _, _, rfl, rfl, _, rfl, decF (by rw [vi_len]; omega) ?_⟩⟩
    refine ⟨.ref a, rfl, a, rfl, ⟨_, hS⟩, for_tup (K := K) (xs := vi p) (fun i σ H' => H' = H ∧ ∃ y2, σ = [some (.ref a), some (.int (r i : Int)), y2]) ⟨rfl, none, by rw [hr0]; rfl⟩ (fun i σ H' _ h => by rw [h.1]; exact hS) ?_ ?_⟩
    · rintro i x σ H' hx ⟨rfl, y2, rfl⟩
      rw [vi, List.getElem?_map] at hx
      cases hc : p[i]? with
      | none => rw [hc] at hx; cases hx
      | some m =>
        rw [hc] at hx
        cases hx
        obtain ⟨h1, h2⟩ := hr1 i m hc
        refine ⟨_, rfl, _, rfl, _, _, rfl, true, by rw [decide_eq_true (by omega), decide_eq_true (by omega)]; rfl, iteF ⟨_, rfl, _, rfl, _, _, rfl, rfl, _, _, rfl, rfl, rfl, some (.int (m : Int)), ?_⟩⟩
        show [_, _, _] = [_, _, _]
        simp only [List.cons.injEq, Option.some.injEq, V.int.injEq, and_true, true_and]
        omega
    · rintro σ H' ⟨rfl, y2, rfl⟩
      exact q
end
def prs : Nat → List Nat → List Nat
  | _, [] => []
  | t, w :: ws => (t + w) :: prs (t + w) ws
def crow (n : Nat) : Nat → List Nat
  | 0 => List.replicate (n + 1) 1
  | m + 1 => prs 0 (crow n m).tail
theorem prs_len : ∀ {t : Nat} {ws : List Nat}, (prs t ws).length = ws.length
  | _, [] => rfl
  | t, w :: ws => by simp only [prs, List.length_cons, prs_len]
theorem crow_len {n : Nat} : ∀ {m : Nat}, m ≤ n → (crow n m).length = n + 1 - m
  | 0, _ => by simp [crow]
  | m + 1, h => by
    show (prs 0 (crow n m).tail).length = _
    rw [prs_len, List.length_tail, crow_len (by omega)]; omega
def RowsL (p : Addr) (H : Hp) (n j : Nat) (rs : List V) : Prop := rs.length = j ∧ ∀ m, m < j → ∃ a, rs[m]? = some (.ref a) ∧ a ≠ p ∧ H a = some (.lst (vi (crow n m)))
theorem RowsL.but {p r : Addr} {H H' : Hp} {n j : Nat} {rs : List V} (h : RowsL p H n j rs) (b : But r H H') (nr : H r = none ∨ r = p) : RowsL p H' n j rs := ⟨h.1, fun m hm => by
  obtain ⟨a, h1, h2, h3⟩ := h.2 m hm
  refine ⟨a, h1, h2, b _ _ (fun z => ?_) h3⟩
  rcases nr with nr | nr
  · rw [z, nr] at h3; cases h3
  · exact h2 (z.trans nr)⟩
theorem prs_get : ∀ {t i : Nat} {ws : List Nat}, i < ws.length → (prs t ws)[i]? = some (t + (ws.take (i + 1)).sum)
  | _, _, [], h => by simp at h
  | t, 0, w :: ws, _ => by simp [prs]
  | t, i + 1, w :: ws, h => by
    have h' : i < ws.length := by simpa using h
    simp only [prs, List.getElem?_cons_succ, prs_get h', List.take_succ_cons, List.sum_cons]
    congr 1
    omega
theorem atI_end {xs : List V} {n : Nat} {v : V} (h : xs[n]? = some v) (hl : xs.length = n + 1) : atI xs (-1) = some v := by
  have hne : xs ≠ [] := fun z => by rw [z] at hl; cases hl
  have e : xs.getLast hne = v := by
    rw [List.getLast_eq_getElem]
    have h2 := List.getElem?_eq_some_iff.mp h
    obtain ⟨q, r⟩ := h2
    rw [← r]
    congr 1
    omega
  rw [← List.dropLast_concat_getLast hne, e]
  exact atI_last _ _
def contW (H : Hp) (p : Addr) (n : Nat) : Nat → L2.St → Hp → Prop := fun m σ G => ∃ (j : Nat) (rs : List V) (y2 y3 y4 : Option V), j + m = n + 1 ∧ 1 ≤ j ∧ σ = [some (.int (n : Int)), some (.ref p), y2, y3, y4] ∧ Same H G ∧ G p = some (.lst rs) ∧ RowsL p G n j rs
section
variable {P : Program} {w : World} {K : PySem.W.Frag} {mg : Str → Option Value} {base : Heap}
def sp_check_flushes (K : PySem.W.Frag) : Sp := fun vs H Q _ => ∃ n : Nat, vs = [.int (n : Int)] ∧ n ≤ 60 ∧ Q .non H
theorem ok_check_flushes (TX : Tx K mg) : FnOk P w K mg base CX0 4 TX.a_check_flushes TX.fd_check_flushes ["n"] (sp_check_flushes K) := by
  refine TX.f_check_flushes.ok sc_check_flushes (fun vs H Q E h => ?_) (fun cdv A outer s H vs Q E hr h => ?_)
  · obtain ⟨n, rfl, _⟩ := h; rfl
  · obtain ⟨n, rfl, hn, q⟩ := h
    refine ⟨_, (pss_one (ps_if (pt_not (pt_val (pe_call (ok_is_count_up_to TX) (hr.mono (by decide)) (by rfl) TX.g_is_count_up_to TX.f_is_count_up_to.kp TX.bd_is_count_up_to .nil pass0 (pa_cons (pv 0) (pa_cons (pe_glob (v := .int (60)) (by rfl) TX.c_MOST_FLUSHES ⟨_, rfl⟩) pa_nil)))))
        (pss_one ps_never)
        pss_nil)), ?_⟩
    refine ⟨_, rfl, (n : Int), 60, rfl, true, by rw [decide_eq_true (by omega), decide_eq_true (by omega)]; rfl, iteF q⟩
def sp_continuations (K : PySem.W.Frag) : Sp := fun vs H Q _ => ∃ n : Nat, vs = [.int (n : Int)] ∧ n ≤ 60 ∧ ∀ H' p rs, Same H H' → H' p = some (.lst rs) → RowsL p H' n (n + 1) rs → Q (.ref p) H'
theorem ok_continuations (TX : Tx K mg) : FnOk P w K mg base CX0 1 TX.a_continuations TX.fd_continuations ["n"] (sp_continuations K) := by
  refine TX.f_continuations.ok sc_continuations (fun vs H Q E h => ?_) (fun cdv A outer s H vs Q E hr h => ?_)
  · obtain ⟨n, rfl, _⟩ := h; rfl
  · obtain ⟨n, rfl, hn, q⟩ := h
    refine ⟨_, (pss_cons (ps_set (i := 1) sc_continuations.nd rfl (.inl rfl) (pe_lst (pa_cons (pe_op op_rep (pe_lst (pa_cons pe_int pa_nil)) (pe_op op_add (pv 0) pe_int)) pa_nil)))
      (pss_cons (ps_while PassesOwn.never (pt_cmpR op_le (pe_callB (id := "len") (k_len (K := K) rfl) (by rfl) TX.b_len (by decide +kernel) (pa_cons (pv 1) pa_nil)) (pv 0) (nomark _))
        (pss_cons (ps_set (i := 2) sc_continuations.nd rfl (.inl rfl) (pe_lst pa_nil))
        (pss_cons (ps_set (i := 3) sc_continuations.nd rfl (.inl rfl) pe_int)
        (pss_cons (ps_for PassesOwn.never rfl (k_piL (K := K) rfl (pe_slice sl_list (pe_ix (k_ixL (K := K) rfl) (pv 1) (pe_un un_neg pe_int) (fun _ _ => rfl)) (po_some pe_int) po_none)) (pg_name (i := 4) sc_continuations.nd rfl (.inl rfl))
          (pss_cons (ps_aug (i := 3) sc_continuations.nd rfl (.inl rfl) (pv 4) ip_add)
          (pss_one (ps_expr (pe_bm PySem.F.plainAttrs_list PySem.F.slot_list_append PySem.F.type_list_append mt_append (pv 2) (pa_cons (pv 3) pa_nil))))))
        (pss_one (ps_expr (pe_bm PySem.F.plainAttrs_list PySem.F.slot_list_append PySem.F.type_list_append mt_append (pv 1) (pa_cons (pv 2) pa_nil))))))))
      (pss_one (ps_ret (pv 1))))), ?_⟩
    refine ⟨sz60 (by simp), fun a0 n0 => ⟨_, rfl, _, _, rfl, rfl, a0, _, [V.int 1], rfl, rfl, upd_same, by omega, by omega, Nat.le_trans (show _ ≤ 61 by simp; omega) (by decide +kernel), fun a1 n1 => ⟨sz60 (by simp), fun p0 n2 => ?_⟩⟩⟩
    have z0 := same_upd (o := .lst [V.int 1]) n0
    have z1 := same_upd (o := .lst (List.replicate ((n : Int) + 1).toNat [V.int 1]).flatten) n1
    have f1 := upd_same (H := upd H a0 (.lst [V.int 1])) (a := a1) (o := .lst (List.replicate ((n : Int) + 1).toNat [V.int 1]).flatten)
    have z2 := same_upd (o := .lst [V.ref a1]) n2
    have hp0 : H p0 = none := (z0.trans z1).free n2
    have h10 : a1 ≠ p0 := fun z => by rw [← z, f1] at n2; cases n2
    have f1' := z2 _ _ f1
    have f2 := upd_same (H := upd (upd H a0 (.lst [V.int 1])) a1 (.lst (List.replicate ((n : Int) + 1).toNat [V.int 1]).flatten)) (a := p0) (o := .lst [V.ref a1])
    have e4 : (List.replicate ((n : Int) + 1).toNat [V.int 1]).flatten = vi (crow n 0) := by
      show _ = vi (List.replicate (n + 1) 1)
      rw [show ((n : Int) + 1).toNat = n + 1 by omega, vi_rep]
      generalize n + 1 = m
      induction m with
      | zero => rfl
      | succ m ih => rw [List.replicate_succ, List.flatten_cons, ih, List.replicate_succ]; rfl
    have s02 := z0.trans (z1.trans z2)
    replace f1' := f1'.trans (congrArg (fun z => some (HO.lst z)) e4)
    generalize upd (upd (upd H a0 _) a1 _) p0 _ = G0 at *
    refine ⟨contW H p0 n, ⟨n, 1, [V.ref a1], _, _, _, by omega, Nat.le_refl 1, rfl, s02, f2, rfl, fun m hm => ⟨a1, by rw [show m = 0 by omega]; rfl, h10, by rw [show m = 0 by omega]; exact f1'⟩⟩, ?_⟩
    rintro m σ G ⟨j, rs, y2, y3, y4, hjm, hj1, rfl, sG, hp, hR⟩
    refine ⟨.ref p0, rfl, p0, _, rfl, .inl (.inl (.inl hp)), _, rfl, _, _, rfl, rfl, ?_⟩
    have hrl := hR.1
    by_cases hj : j ≤ n
    rotate_left
    · refine ⟨false, blF (by rw [hrl]; omega), iteF ?_⟩
      have ej : j = n + 1 := by omega
      subst ej
      exact ⟨_, rfl, q G p0 rs sG hp hR⟩
    refine ⟨true, blT (by rw [hrl]; omega), iteT ⟨contW H p0 n (m - 1), fun σ' H' h => ⟨m - 1, by omega, h⟩, ?_⟩⟩
    refine ⟨sz60 (by simp), fun r nr => ?_⟩
    obtain ⟨c, hc1, hc2, hc3⟩ := hR.2 (j - 1) (by omega)
    have hlast := atI_end hc1 (by rw [hrl]; omega)
    have zr := same_upd (o := .lst []) nr
    have fr := upd_same (H := G) (a := r) (o := .lst [])
    have hrp : r ≠ p0 := fun z => by rw [z, hp] at nr; cases nr
    have br : But r G (upd G r (.lst [])) := .upd
    have sr := sG.trans zr
    have hpr := zr _ _ hp
    have hcr := zr _ _ hc3
    have hrH : H r = none := sG.free nr
    generalize upd G r _ = G1 at *
    refine ⟨.ref p0, rfl, _, rfl, p0, rs, -1, .ref c, rfl, rfl, .inl (.inl hpr), hlast, _, rfl, ?_⟩
    unfold tNoPart
    refine ⟨c, _, rfl, .inl (.inl hcr), fun sl ns => ?_⟩
    have e5 : cutV (vi (crow n (j - 1))) (some 1) none = vi ((crow n (j - 1)).drop 1) := by
      have hl := crow_len (n := n) (m := j - 1) (by omega)
      exact cutV_from (m := 1) (by omega)
    rw [e5]
    obtain ⟨ws, hws⟩ : ∃ ws, ws = (crow n (j - 1)).drop 1 := ⟨_, rfl⟩
    have ews : prs 0 ws = crow n j := by
      rw [hws, List.drop_one]
      show crow n ((j - 1) + 1) = _
      rw [show j - 1 + 1 = j by omega]
    have hwl : ws.length ≤ 60 := by
      rw [hws, List.length_drop, crow_len (by omega)]; omega
    rw [← hws]
    have zs := same_upd (o := .lst (vi ws)) ns
    have fs := upd_same (H := G1) (a := sl) (o := .lst (vi ws))
    have hsr : sl ≠ r := fun z => by rw [z, fr] at ns; cases ns
    have fr2 := zs _ _ fr
    have sr2 := sr.trans zs
    have bR : But r G _ := br.trans (But.of zs)
    have hp2 := zs _ _ hpr
    generalize upd G1 sl _ = G2 at *
    refine ⟨sl, rfl, ⟨_, .inl (.inl fs)⟩, for_list (K := K) (xs := vi ws) (fun i σ G' => ∃ y4, σ = [some (.int (n : Int)), some (.ref p0), some (.ref r), some (.int (((ws.take i).sum : Nat) : Int)), y4] ∧ But r G2 G' ∧ G' r = some (.lst (vi ((prs 0 ws).take i)))) ⟨_, rfl, .refl, fr2⟩ (fun i σ G' _ h => by obtain ⟨_, _, h, _⟩ := h; exact .inl (.inl (h _ _ hsr fs))) ?_ ?_⟩
    · rintro i x σ G' hx ⟨y4, rfl, b, hr'⟩
      have hi : i < ws.length := by have := (List.getElem?_eq_some_iff.mp hx).1; rwa [vi_len] at this
      have hg := List.getElem?_eq_getElem hi
      rw [vi_get hg] at hx
      cases hx
      refine ⟨_, rfl, _, rfl, _, _, rfl, rfl, ?_⟩
      have e6 : (ws.take (i + 1)).sum = (ws.take i).sum + ws[i] := by
        rw [List.take_add_one, hg, List.sum_append, Option.toList_some, List.sum_singleton]
      refine ⟨.ref r, rfl, .inl ⟨rfl, _, .inl (.inl hr')⟩, _, rfl, r, _, _, rfl, rfl, hr', sz61 (by rw [vi_len, List.length_take, prs_len]; omega), ?_⟩
      refine ⟨some (.int (ws[i] : Int)), by rw [e6]; rfl, b.trans .upd, ?_⟩
      rw [List.take_add_one, prs_get hi, Nat.zero_add, e6]
      simp only [Option.toList_some, vi_app]
      exact upd_same
    · rintro σ G' ⟨y4, rfl, b, hr'⟩
      rw [List.take_of_length_le (by rw [vi_len, prs_len]; omega), ews] at hr'
      have hp3 := b _ _ (Ne.symm hrp) hp2
      have bAll := bR.trans b
      refine ⟨.ref p0, rfl, .inl ⟨rfl, _, .inl (.inl hp3)⟩, _, rfl, p0, rs, _, rfl, rfl, hp3, sz61 (by omega), ?_⟩
      have hR2 := hR.but bAll (.inl nr)
      have hR3 : RowsL p0 (upd G' p0 (.lst (rs ++ [V.ref r]))) n j rs := hR2.but .upd (.inr rfl)
      have sF : Same H (upd G' p0 (.lst (rs ++ [V.ref r]))) := by
        have s3 : Same H G' := fun b' o' e' => b _ _ (fun z => by rw [z, hrH] at e'; cases e') (sr2 _ _ e')
        exact Same.mut s3 hp0
      refine ⟨j + 1, rs ++ [V.ref r], _, _, _, by omega, by omega, rfl, sF, upd_same, by simp [hrl], fun m' hm' => ?_⟩
      by_cases e : m' < j
      · obtain ⟨a, g1, g2, g3⟩ := hR3.2 m' e
        exact ⟨a, by rw [List.getElem?_append_left (by omega)]; exact g1, g2, g3⟩
      · refine ⟨r, ?_, hrp, ?_⟩
        · rw [List.getElem?_append_right (by omega), show m' - rs.length = 0 by omega]; rfl
        · rw [upd_ne hrp, show m' = j by omega]; exact hr'
def rowG (n m i : Nat) : Nat := (crow n m).getD i 0
theorem RowsL.at {p : Addr} {H : Hp} {n j m : Nat} {rs : List V} (h : RowsL p H n j rs) (hm : m < j) : ∃ a, atI rs ((m : Nat) : Int) = some (.ref a) ∧ H a = some (.lst (vi (crow n m))) := by
  obtain ⟨a, h1, _, h3⟩ := h.2 m hm
  exact ⟨a, atI_nat h1, h3⟩
def sp_count_schedules (K : PySem.W.Frag) : Sp := fun vs H Q _ => ∃ n : Nat, vs = [.int (n : Int)] ∧ n ≤ 60 ∧ ∀ H', Same H H' → Q (.int ((rowG n n 0 : Nat) : Int)) H'
theorem ok_count_schedules (TX : Tx K mg) : FnOk P w K mg base CX0 5 TX.a_count_schedules TX.fd_count_schedules ["n"] (sp_count_schedules K) := by
  refine TX.f_count_schedules.ok sc_count_schedules (fun vs H Q E h => ?_) (fun cdv A outer s H vs Q E hr h => ?_)
  · obtain ⟨n, rfl, _⟩ := h; rfl
  · obtain ⟨n, rfl, hn, q⟩ := h
    refine ⟨_, (pss_cons (ps_expr (pe_call (ok_check_flushes TX) (hr.mono (by decide)) (by rfl) TX.g_check_flushes TX.f_check_flushes.kp TX.bd_check_flushes .nil pass0 (pa_cons (pv 0) pa_nil)))
      (pss_one (ps_ret (pe_ix (k_ixL (K := K) rfl) (pe_ix (k_ixL (K := K) rfl) (pe_call (ok_continuations TX) (hr.mono (by decide)) (by rfl) TX.g_continuations TX.f_continuations.kp TX.bd_continuations .nil pass0 (pa_cons (pv 0) pa_nil)) (pv 0) (fun _ _ => rfl)) pe_int (fun _ _ => rfl))))), ?_⟩
    refine ⟨_, rfl, n, rfl, hn, ?_⟩
    refine ⟨_, rfl, n, rfl, hn, fun H' p rs s hp hR => ?_⟩
    obtain ⟨a, h1, h3⟩ := hR.at (m := n) (by omega)
    have hl := crow_len (n := n) (m := n) (Nat.le_refl _)
    have h0 : (crow n n)[0]? = some (rowG n n 0) := by
      rw [List.getElem?_eq_getElem (by omega)]
      unfold rowG
      rw [List.getD_eq_getElem?_getD, List.getElem?_eq_getElem (by omega)]; rfl
    exact ⟨_, rfl, p, rs, _, .ref a, rfl, rfl, .inl (.inl hp), h1, a, _, 0, _, rfl, rfl, .inl (.inl h3), at_vi (i := 0) h0, q H' s⟩
theorem cut_mid {xs : List V} {l h : Nat} (h1 : l ≤ xs.length) (h2 : h ≤ xs.length) : cutV xs (some (l : Int)) (some (h : Int)) = (xs.drop l).take (h - l) := by
  unfold cutV
  rw [HT.sIx_nat, HT.sIx_nat, Nat.min_eq_left h1, Nat.min_eq_left h2]
theorem sum_ci : ∀ xs : List Nat, (ci xs).sum = ((xs.sum : Nat) : Int)
  | [] => rfl
  | x :: xs => by
    have := sum_ci xs
    simp only [ci, List.map_cons, List.sum_cons] at this ⊢
    rw [this]; omega
/-- index_of, as the program counts -/
def ixF (n : Nat) : List Nat → Nat → Nat → Nat → Nat
  | [], _, _, b => b
  | m :: p, i, r, b => ixF n p (i + 1) (r + 1 - m) (b + (((crow n (n - 1 - i)).drop (r + 1 - m + 1)).take (m)).sum)
def sp_index_of (K : PySem.W.Frag) : Sp := fun vs H Q _ => ∃ (a : Addr) (p : List Nat) (r : Nat → Nat), vs = [.ref a] ∧ SqT K H a (vi p) ∧ p.length ≤ 60 ∧ SchR p r ∧ ∀ H', Same H H' → Q (.int ((ixF p.length p 0 0 0 : Nat) : Int)) H'
theorem ok_index_of (TX : Tx K mg) : FnOk P w K mg base CX0 5 TX.a_index_of TX.fd_index_of ["schedule"] (sp_index_of K) := by
  refine TX.f_index_of.ok sc_index_of (fun vs H Q E h => ?_) (fun cdv A outer s H vs Q E hr h => ?_)
  · obtain ⟨a, p, r, rfl, _⟩ := h; rfl
  · obtain ⟨a, p, r, rfl, hS, hl, hsc, q⟩ := h
    refine ⟨_, (pss_cons (ps_if (pt_not (pt_val (pe_call (ok_is_schedule TX) (hr.mono (by decide)) (by rfl) TX.g_is_schedule TX.f_is_schedule.kp TX.bd_is_schedule .nil pass0 (pa_cons (pv 0) pa_nil))))
        (pss_one ps_never)
        pss_nil)
      (pss_cons (ps_set (i := 1) sc_index_of.nd rfl (.inl rfl) (pe_call (ok_continuations TX) (hr.mono (by decide)) (by rfl) TX.g_continuations TX.f_continuations.kp TX.bd_continuations .nil pass0 (pa_cons (pe_callB (id := "len") (k_len (K := K) rfl) (by rfl) TX.b_len (by decide +kernel) (pa_cons (pv 0) pa_nil)) pa_nil)))
      (pss_cons (ps_set (i := 2) sc_index_of.nd rfl (.inl rfl) pe_int)
      (pss_cons (ps_set (i := 3) sc_index_of.nd rfl (.inl rfl) pe_int)
      (pss_cons (ps_for PassesOwn.never rfl (pi_enumT (by rfl) TX.b_enumerate (pa_cons (pv 0) pa_nil)) (pg_tup rfl (pgs_cons (pg_name (i := 4) sc_index_of.nd rfl (.inl rfl)) (pgs_cons (pg_name (i := 5) sc_index_of.nd rfl (.inl rfl)) pgs_nil)))
        (pss_cons (ps_set (i := 6) sc_index_of.nd rfl (.inl rfl) (pe_ix (k_ixL (K := K) rfl) (pv 1) (pe_op op_sub (pe_op op_sub (pe_callB (id := "len") (k_len (K := K) rfl) (by rfl) TX.b_len (by decide +kernel) (pa_cons (pv 0) pa_nil)) pe_int) (pv 4)) (fun _ _ => rfl)))
        (pss_cons (ps_set (i := 7) sc_index_of.nd rfl (.inl rfl) (pe_op op_sub (pe_op op_add (pv 3) pe_int) (pv 5)))
        (pss_cons (ps_aug (i := 2) sc_index_of.nd rfl (.inl rfl) (pe_callB (id := "sum") (cr_sum rfl) (by rfl) TX.b_sum (by decide +kernel) (pa_cons (pe_slice sl_list (pv 6) (po_some (pe_op op_add (pv 7) pe_int)) (po_some (pe_op op_add (pv 3) pe_int))) pa_nil)) ip_add)
        (pss_one (ps_set (i := 3) sc_index_of.nd rfl (.inl rfl) (pv 7)))))))
      (pss_one (ps_ret (pv 2)))))))), ?_⟩
    refine ⟨.ref a, rfl, a, p, r, rfl, hS, hl, hsc, true, rfl, iteF ?_⟩
    refine ⟨.ref a, rfl, a, _, rfl, .inr hS, p.length, by rw [vi_len]; rfl, hl, fun H1 pr rs s1 hp hR => ?_⟩
    have hri : ∀ i, i ≤ p.length → r i ≤ i := fun i => by
      induction i with
      | zero => intro _; rw [hsc.1]; exact Nat.le_refl 0
      | succ i ih =>
        intro hi
        obtain ⟨a1, a2⟩ := hsc.2 i _ (List.getElem?_eq_getElem (show i < p.length by omega))
        have := ih (by omega)
        omega
    refine ⟨.ref a, rfl, a, _, rfl, Same.tup s1 hS, for_it walk_enumT (fun i σ H' => ∃ (b : Nat) (y4 y5 y6 y7 : Option V), σ = [some (.ref a), some (.ref pr), some (.int (b : Int)), some (.int ((r i : Nat) : Int)), y4, y5, y6, y7] ∧ Same H1 H' ∧ ixF p.length (p.drop i) i (r i) b = ixF p.length p 0 0 0) ⟨0, none, none, none, none, by rw [hsc.1]; rfl, Same.refl _, by rw [hsc.1]; rfl⟩ (fun i σ H' _ ⟨_, _, _, _, _, _, h, _⟩ => Same.tup (s1.trans h) hS) ?_ ?_⟩
    · rintro i x σ H2 H3 hi ⟨b, y4, y5, y6, y7, rfl, sm, hix⟩ hy
      obtain ⟨Tp, x1, x2, rfl, nT, rfl, e1, e2⟩ := hy
      cases e1
      have hi' : i < p.length := by rw [vi_len] at hi; exact hi
      have hm := List.getElem?_eq_getElem hi'
      replace e2 : (vi p)[i]? = some x2 := e2
      rw [vi_get hm] at e2
      cases e2
      obtain ⟨m, hmm⟩ : ∃ m, m = p[i] := ⟨_, rfl⟩
      rw [← hmm] at hm ⊢
      obtain ⟨a1, a2⟩ := hsc.2 i m hm
      have hrl := hri i (by omega)
      have sT : Same H2 (upd H2 Tp (.tup [.int (i : Nat), .int (m : Int)])) := same_upd nT
      obtain ⟨c, hc1, hc3⟩ := hR.at (m := p.length - 1 - i) (by omega)
      have hcl := crow_len (n := p.length) (m := p.length - 1 - i) (by omega)
      refine ⟨Tp, _, rfl, .inl (.inl upd_same), rfl, _, _, rfl, _, _, rfl, rfl, ?_⟩
      have hp2 := sT _ _ (sm _ _ hp)
      have hc2 := sT _ _ (sm _ _ hc3)
      refine ⟨_, rfl, .ref a, rfl, a, _, rfl, .inr (Same.tup (s1.trans (sm.trans sT)) hS), _, _, rfl, rfl, _, rfl, _, _, rfl, rfl, pr, rs, _, .ref c, rfl, rfl, .inl (.inl hp2), ?_, ?_⟩
      · rw [← hc1]; congr 1; rw [vi_len]; omega
      refine ⟨_, rfl, _, _, rfl, rfl, _, rfl, _, _, rfl, rfl, ?_⟩
      refine ⟨_, rfl, _, rfl, _, rfl, _, _, rfl, rfl, _, rfl, _, rfl, _, _, rfl, rfl, _, rfl, c, _, rfl, .inl (.inl hc2), fun sl ns => ?_⟩
      have e7 : ((r i : Nat) : Int) + 1 - (m : Int) + 1 = ((r i + 1 - m + 1 : Nat) : Int) := by omega
      have e8 : ((r i : Nat) : Int) + 2 = ((r i + 2 : Nat) : Int) := by omega
      have e9 : cutV (vi (crow p.length (p.length - 1 - i))) (some (((r i : Nat) : Int) + 1 - (m : Int) + 1)) (some (((r i : Nat) : Int) + 2)) = (ci (((crow p.length (p.length - 1 - i)).drop (r i + 1 - m + 1)).take m)).map V.int := by
        rw [e7, e8, cut_mid (by rw [vi_len, hcl]; omega) (by rw [vi_len, hcl]; omega), show r i + 2 - (r i + 1 - m + 1) = m by omega, ← vi_ci]
        unfold vi
        rw [List.map_take, List.map_drop]
      have s4 := same_upd (o := .lst (cutV (vi (crow p.length (p.length - 1 - i))) (some (((r i : Nat) : Int) + 1 - (m : Int) + 1)) (some (((r i : Nat) : Int) + 2)))) ns
      refine ⟨sl, ci (((crow p.length (p.length - 1 - i)).drop (r i + 1 - m + 1)).take m), rfl, .inl (.inl (upd_same.trans (congrArg (fun z => some (HO.lst z)) e9))), _, _, rfl, rfl, ?_⟩
      refine ⟨_, rfl, b + (((crow p.length (p.length - 1 - i)).drop (r i + 1 - m + 1)).take m).sum, some (.int (i : Int)), some (.int (m : Int)), some (.ref c), some (.int (((r i : Nat) : Int) + 1 - (m : Int))), ?_, sm.trans (sT.trans s4), ?_⟩
      · rw [sum_ci, a2]
        show [_, _, _, _, _, _, _, _] = [_, _, _, _, _, _, _, _]
        have g1 : ((r i : Nat) : Int) + 1 - (m : Int) = ((r i - m + 1 : Nat) : Int) := by omega
        have g2 : ∀ z : Nat, (b : Int) + (z : Int) = ((b + z : Nat) : Int) := fun z => by omega
        rw [← g1, ← g2]
      · have ed : p.drop i = m :: p.drop (i + 1) := by
          rw [List.drop_eq_getElem_cons hi', hmm]
        rw [ed] at hix
        rw [← hix, a2, show r i - m + 1 = r i + 1 - m by omega]
        rfl
    · rintro σ H2 ⟨b, y4, y5, y6, y7, rfl, sm, hix⟩
      refine ⟨_, rfl, ?_⟩
      rw [vi_len, List.drop_length] at hix
      have e : b = ixF p.length p 0 0 0 := hix
      rw [e]
      exact q _ (s1.trans sm)
end
/-- the way down the choices, as the program goes -/
def dnF (ways : List Nat) : Nat → Nat → Option (Nat × Nat)
  | 0, b => match ways[0]? with
    | some w => if b < w then some (0, b) else none
    | none => none
  | l + 1, b => match ways[l + 1]? with
    | some w => if b < w then some (l + 1, b) else dnF ways l (b - w)
    | none => none
def atL (n : Nat) : Nat → Nat → Nat → Nat → Option (List Nat)
  | 0, _, _, _ => some []
  | k + 1, i, r, b => match dnF (crow n (n - 1 - i)) (r + 1) b with
    | some (l, b') => (atL n k (i + 1) l b').map fun p => (r + 1 - l) :: p
    | none => none
theorem dnF_le {ways : List Nat} : ∀ {l b l' b' : Nat}, dnF ways l b = some (l', b') → l' ≤ l
  | 0, b, l', b', h => by
    unfold dnF at h
    split at h
    · split at h
      · cases h; exact Nat.le_refl 0
      · cases h
    · cases h
  | l + 1, b, l', b', h => by
    unfold dnF at h
    split at h
    · split at h
      · cases h; exact Nat.le_refl _
      · exact Nat.le_succ_of_le (dnF_le h)
    · cases h
/-- one look of the way down -/
theorem dnF_step {ways : List Nat} {l b l' b' : Nat} (h : dnF ways l b = some (l', b')) : ∃ wv, ways[l]? = some wv ∧ ((b < wv ∧ l' = l ∧ b' = b) ∨ (wv ≤ b ∧ ∃ l0, l = l0 + 1 ∧ dnF ways l0 (b - wv) = some (l', b'))) := by
  cases l with
  | zero =>
    unfold dnF at h
    split at h
    · rename_i wv hw
      split at h
      · rename_i hb
        cases h
        exact ⟨wv, hw, .inl ⟨hb, rfl, rfl⟩⟩
      · cases h
    · cases h
  | succ l =>
    unfold dnF at h
    split at h
    · rename_i wv hw
      split at h
      · rename_i hb
        cases h
        exact ⟨wv, hw, .inl ⟨hb, rfl, rfl⟩⟩
      · rename_i hb
        exact ⟨wv, hw, .inr ⟨by omega, l, rfl, h⟩⟩
    · cases h
section
variable {P : Program} {w : World} {K : PySem.W.Frag} {mg : Str → Option Value} {base : Heap}
def sp_schedule_at (K : PySem.W.Frag) : Sp := fun vs H Q _ => ∃ (n ix : Nat) (pl : List Nat), vs = [.int (n : Int), .int (ix : Int)] ∧ n ≤ 60 ∧ ix < rowG n n 0 ∧ atL n n 0 0 ix = some pl ∧ ∀ H' q, Same H H' → SqT K H' q (vi pl) → Q (.ref q) H'
theorem ok_schedule_at (TX : Tx K mg) : FnOk P w K mg base CX0 5 TX.a_schedule_at TX.fd_schedule_at ["n", "index"] (sp_schedule_at K) := by
  refine TX.f_schedule_at.ok sc_schedule_at (fun vs H Q E h => ?_) (fun cdv A outer s H vs Q E hr h => ?_)
  · obtain ⟨n, ix, pl, rfl, _⟩ := h; rfl
  · obtain ⟨n, ix, pl, rfl, hn, hix, hpl, q⟩ := h
    refine ⟨_, (pss_cons (ps_expr (pe_call (ok_check_flushes TX) (hr.mono (by decide)) (by rfl) TX.g_check_flushes TX.f_check_flushes.kp TX.bd_check_flushes .nil pass0 (pa_cons (pv 0) pa_nil)))
      (pss_cons (ps_set (i := 2) sc_schedule_at.nd rfl (.inl rfl) (pe_call (ok_continuations TX) (hr.mono (by decide)) (by rfl) TX.g_continuations TX.f_continuations.kp TX.bd_continuations .nil pass0 (pa_cons (pv 0) pa_nil)))
      (pss_cons (ps_if (pt_not (pt_val (pe_call (ok_is_count_up_to TX) (hr.mono (by decide)) (by rfl) TX.g_is_count_up_to TX.f_is_count_up_to.kp TX.bd_is_count_up_to .nil pass0 (pa_cons (pv 1) (pa_cons (pe_op op_sub (pe_ix (k_ixL (K := K) rfl) (pe_ix (k_ixL (K := K) rfl) (pv 2) (pv 0) (fun _ _ => rfl)) pe_int (fun _ _ => rfl)) pe_int) pa_nil)))))
        (pss_one ps_never)
        pss_nil)
      (pss_cons (ps_set (i := 3) sc_schedule_at.nd rfl (.inl rfl) (pe_lst pa_nil))
      (pss_cons (ps_set (i := 4) sc_schedule_at.nd rfl (.inl rfl) pe_int)
      (pss_cons (ps_set (i := 5) sc_schedule_at.nd rfl (.inl rfl) (pv 1))
      (pss_cons (ps_for PassesOwn.never rfl (pi_range1 (by rfl) TX.b_range (pa_cons (pv 0) pa_nil)) (pg_name (i := 6) sc_schedule_at.nd rfl (.inl rfl))
        (pss_cons (ps_set (i := 7) sc_schedule_at.nd rfl (.inl rfl) (pe_ix (k_ixL (K := K) rfl) (pv 2) (pe_op op_sub (pe_op op_sub (pv 0) pe_int) (pv 6)) (fun _ _ => rfl)))
        (pss_cons (ps_set (i := 8) sc_schedule_at.nd rfl (.inl rfl) (pe_op op_add (pv 4) pe_int))
        (pss_cons (ps_while PassesOwn.never (pt_cmpR op_ge (pv 5) (pe_ix (k_ixL (K := K) rfl) (pv 7) (pv 8) (fun _ _ => rfl)) (nomark _))
          (pss_cons (ps_aug (i := 5) sc_schedule_at.nd rfl (.inl rfl) (pe_ix (k_ixL (K := K) rfl) (pv 7) (pv 8) (fun _ _ => rfl)) ip_sub)
          (pss_one (ps_aug (i := 8) sc_schedule_at.nd rfl (.inl rfl) pe_int ip_sub))))
        (pss_cons (ps_expr (pe_bm PySem.F.plainAttrs_list PySem.F.slot_list_append PySem.F.type_list_append mt_append (pv 3) (pa_cons (pe_op op_sub (pe_op op_add (pv 4) pe_int) (pv 8)) pa_nil)))
        (pss_one (ps_set (i := 4) sc_schedule_at.nd rfl (.inl rfl) (pv 8))))))))
      (pss_one (ps_ret (pe_callTy (T := "tuple") (k_tupOf (K := K) rfl) (by rfl) TX.b_tuple (by decide +kernel) (pa_cons (pv 3) pa_nil))))))))))), ?_⟩
    refine ⟨_, rfl, n, rfl, hn, ?_⟩
    refine ⟨_, rfl, n, rfl, hn, fun H1 pr rs s1 hp hR => ?_⟩
    obtain ⟨a, h1, h3⟩ := hR.at (m := n) (by omega)
    have hl := crow_len (n := n) (m := n) (Nat.le_refl _)
    have h0 : (crow n n)[0]? = some (rowG n n 0) := by
      rw [List.getElem?_eq_getElem (by omega)]
      unfold rowG
      rw [List.getD_eq_getElem?_getD, List.getElem?_eq_getElem (by omega)]; rfl
    refine ⟨_, rfl, _, rfl, _, rfl, pr, rs, _, .ref a, rfl, rfl, .inl (.inl hp), h1, a, _, 0, _, rfl, rfl, .inl (.inl h3), at_vi (i := 0) h0, _, _, rfl, rfl, (ix : Int), ((rowG n n 0 : Nat) : Int) - 1, rfl, true, by rw [decide_eq_true (by omega), decide_eq_true (by omega)]; rfl, iteF ?_⟩
    refine ⟨sz60 (by simp), fun ml nm => ?_⟩
    have zm := same_upd (o := .lst []) nm
    have fm := upd_same (H := H1) (a := ml) (o := .lst [])
    have hml : H ml = none := s1.free nm
    have hmp : pr ≠ ml := fun z => by rw [← z, hp] at nm; cases nm
    have bm : But ml H1 (upd H1 ml (.lst [])) := .upd
    generalize upd H1 ml _ = G0 at *
    refine ⟨_, rfl, _, rfl, _, rfl, by omega, by omega, ?_⟩
    rw [show ((n : Nat) : Int).toNat = n by omega]
    refine for_range (lo := 0) (n := n) (fun i σ G => ∃ (acc rest : List Nat) (r b : Nat) (y6 y7 y8 : Option V), σ = [some (.int (n : Int)), some (.int (ix : Int)), some (.ref pr), some (.ref ml), some (.int (r : Int)), some (.int (b : Int)), y6, y7, y8] ∧ But ml H1 G ∧ G ml = some (.lst (vi acc)) ∧ acc.length = i ∧ atL n (n - i) i r b = some rest ∧ pl = acc ++ rest) ⟨[], pl, 0, ix, none, none, none, rfl, bm, fm, rfl, hpl, rfl⟩ ?_ ?_
    rotate_left
    · rintro σ G ⟨acc, rest, r, b, y6, y7, y8, rfl, bG, hG, hal, hat, hpe⟩
      rw [Nat.sub_self] at hat
      cases hat
      rw [List.append_nil] at hpe
      subst hpe
      refine ⟨.ref ml, rfl, ml, _, rfl, .inl ⟨.inl (.inl hG), fun t nt => ?_⟩⟩
      have sG : Same H G := fun b' o' e' => bG _ _ (fun z => by rw [z, hml] at e'; cases e') (s1 _ _ e')
      exact q _ t (sG.trans (same_upd nt)) (.inl (.inl upd_same))
    rintro i σ G hi ⟨acc, rest, r, b, y6, y7, y8, rfl, bG, hG, hal, hat, hpe⟩
    have ei : (0 : Int) + (i : Nat) = (i : Int) := by omega
    rw [ei]
    obtain ⟨c, hc1, hc3⟩ := hR.at (m := n - 1 - i) (by omega)
    have hcm : c ≠ ml := fun z => by rw [z, nm] at hc3; cases hc3
    have hpG := bG _ _ hmp hp
    have hcG := bG _ _ hcm hc3
    rw [show n - i = (n - i - 1) + 1 by omega] at hat
    unfold atL at hat
    refine ⟨_, rfl, _, rfl, _, _, rfl, rfl, _, rfl, _, _, rfl, rfl, pr, rs, _, .ref c, rfl, rfl, .inl (.inl hpG), by rw [← hc1]; congr 1; omega, ?_⟩
    refine ⟨_, rfl, _, _, rfl, rfl, ?_⟩
    split at hat
    rotate_left
    · cases hat
    rename_i l' b' hdn
    obtain ⟨rest', hr1, hr2⟩ := Option.map_eq_some_iff.mp hat
    have er : ((r : Nat) : Int) + 1 = ((r + 1 : Nat) : Int) := by omega
    refine ⟨fun m σ G' => ∃ b1 : Nat, σ = [some (.int (n : Int)), some (.int (ix : Int)), some (.ref pr), some (.ref ml), some (.int (r : Int)), some (.int (b1 : Int)), some (.int (i : Int)), some (.ref c), some (.int (m : Int))] ∧ G' = G ∧ dnF (crow n (n - 1 - i)) m b1 = some (l', b'), ⟨r + 1, b, by rw [← er]; rfl, rfl, hdn⟩, ?_⟩
    rintro m σ G' ⟨b1, rfl, rfl, hd⟩
    obtain ⟨wv, hw, hcase⟩ := dnF_step hd
    refine ⟨_, rfl, _, rfl, _, rfl, c, _, _, _, rfl, rfl, .inl (.inl hcG), at_vi hw, _, _, rfl, rfl, ?_⟩
    rcases hcase with ⟨hlt, rfl, rfl⟩ | ⟨hge, l0, rfl, hd0⟩
    · refine ⟨false, blF (by omega), iteF ?_⟩
      have hle := dnF_le hdn
      refine ⟨.ref ml, rfl, .inl ⟨rfl, _, .inl (.inl hG)⟩, _, rfl, _, _, rfl, rfl, _, rfl, _, _, rfl, rfl, ml, _, _, rfl, rfl, hG, sz61 (by rw [vi_len]; omega), ?_⟩
      have e1 : ((r : Nat) : Int) + 1 - (l' : Int) = ((r + 1 - l' : Nat) : Int) := by omega
      refine ⟨_, rfl, acc ++ [r + 1 - l'], rest', l', b', some (.int (i : Int)), some (.ref c), some (.int (l' : Int)), rfl, bG.trans .upd, ?_, by simp [hal], ?_, ?_⟩
      · rw [vi_app]
        show upd _ ml _ ml = _
        rw [upd_same]
        show some (HO.lst (vi acc ++ [V.int (((r : Nat) : Int) + 1 - (l' : Int))])) = _
        rw [e1]; rfl
      · rw [← hr1]; congr 1
      · rw [hpe, ← hr2]; simp
    · refine ⟨true, blT (by omega), iteT ⟨_, fun σ' H' h => ⟨l0, Nat.lt_succ_self _, h⟩, ?_⟩⟩
      refine ⟨_, rfl, _, rfl, _, rfl, c, _, _, _, rfl, rfl, .inl (.inl hcG), at_vi hw, _, _, rfl, rfl, ?_⟩
      refine ⟨_, rfl, _, _, rfl, rfl, b1 - wv, ?_, rfl, hd0⟩
      show [_, _, _, _, _, _, _, _, _] = [_, _, _, _, _, _, _, _, _]
      have g1 : (b1 : Int) - (wv : Int) = ((b1 - wv : Nat) : Int) := by omega
      have g2 : ((l0 + 1 : Nat) : Int) - 1 = (l0 : Int) := by omega
      rw [← g1, ← g2]
end
/-! ### the numbers of schedules: index_of and schedule_at are each other's inverse -/
def TT (n m : Nat) : Nat → Nat
  | 0 => 0
  | l + 1 => TT n m l + rowG n m (l + 1)
theorem crow_at {n m r : Nat} (hm : m ≤ n) (hr : r + m ≤ n) : (crow n m)[r]? = some (rowG n m r) := by
  have hl := crow_len (n := n) hm
  rw [List.getElem?_eq_getElem (by omega)]
  unfold rowG
  rw [List.getD_eq_getElem?_getD, List.getElem?_eq_getElem (by omega)]; rfl
theorem TT_take {n m : Nat} (hm : m ≤ n) : ∀ l, l + m ≤ n → ((crow n m).tail.take l).sum = TT n m l
  | 0, _ => by simp [TT]
  | l + 1, h => by
    have h1 : (crow n m).tail[l]? = some (rowG n m (l + 1)) := by
      rw [List.getElem?_tail]
      exact crow_at hm (by omega)
    rw [List.take_add_one, h1, List.sum_append, TT_take hm l (by omega)]
    simp [TT]
theorem rowG_succ {n m r : Nat} (h : r + (m + 1) ≤ n) : rowG n (m + 1) r = TT n m (r + 1) := by
  have h1 := crow_at (n := n) (m := m + 1) (r := r) (by omega) h
  have h2 : (crow n (m + 1))[r]? = some (0 + ((crow n m).tail.take (r + 1)).sum) := prs_get (by
    rw [List.length_tail, crow_len (by omega)]; omega)
  rw [h1] at h2
  have := Option.some.inj h2
  rw [this, Nat.zero_add, TT_take (by omega) _ (by omega)]
theorem rowG_zero {n r : Nat} (h : r ≤ n) : rowG n 0 r = 1 := by
  have h1 := crow_at (n := n) (m := 0) (r := r) (by omega) (by omega)
  have h2 : (crow n 0)[r]? = some 1 := by
    show (List.replicate (n + 1) 1)[r]? = _
    rw [List.getElem?_replicate, if_pos (by omega)]
  rw [h1] at h2
  exact Option.some.inj h2
theorem TT_mid {n m : Nat} (hm : m ≤ n) (l : Nat) : ∀ k, l + k + m ≤ n → TT n m l + (((crow n m).drop (l + 1)).take k).sum = TT n m (l + k)
  | 0, _ => by simp
  | k + 1, h => by
    have h1 : ((crow n m).drop (l + 1))[k]? = some (rowG n m (l + k + 1)) := by
      rw [List.getElem?_drop, show l + 1 + k = l + k + 1 by omega]
      exact crow_at hm (by omega)
    rw [List.take_add_one, h1, List.sum_append, ← Nat.add_assoc, TT_mid hm l k (by omega)]
    show _ = TT n m (l + k) + rowG n m (l + k + 1)
    simp
theorem TT_mono {n m : Nat} {a b : Nat} (h : a ≤ b) : TT n m a ≤ TT n m b := by
  induction h with
  | refl => exact Nat.le_refl _
  | step h ih => exact Nat.le_trans ih (Nat.le_add_right _ _)
/-- the way down ends where the rest is within the row -/
theorem dnF_some {n m : Nat} (hm : m ≤ n) : ∀ {l b : Nat}, l + m ≤ n → b < TT n m l → ∃ l' b', dnF (crow n m) l b = some (l', b') ∧ 1 ≤ l' ∧ l' ≤ l ∧ b' < rowG n m l' ∧ b + TT n m l' = TT n m l + b'
  | 0, b, _, h => by simp [TT] at h
  | l + 1, b, hl, h => by
    have hw := crow_at (n := n) (m := m) (r := l + 1) hm (by omega)
    unfold dnF
    rw [hw]
    dsimp only
    by_cases hb : b < rowG n m (l + 1)
    · rw [if_pos hb]
      exact ⟨l + 1, b, rfl, by omega, Nat.le_refl _, hb, by omega⟩
    · rw [if_neg hb]
      have e : TT n m (l + 1) = TT n m l + rowG n m (l + 1) := rfl
      obtain ⟨l', b', h1, h2, h3, h4, h5⟩ := dnF_some hm (l := l) (b := b - rowG n m (l + 1)) (by omega) (by omega)
      exact ⟨l', b', h1, h2, by omega, h4, by omega⟩
/-- and it ends nowhere else -/
theorem dnF_of {n m : Nat} (hm : m ≤ n) {l' b' : Nat} (hb' : b' < rowG n m l') : ∀ {l b : Nat}, l + m ≤ n → l' ≤ l → b + TT n m l' = TT n m l + b' → dnF (crow n m) l b = some (l', b')
  | 0, b, hl, h1, h2 => by
    have : l' = 0 := by omega
    subst this
    have hw := crow_at (n := n) (m := m) (r := 0) hm (by omega)
    unfold dnF
    rw [hw]
    dsimp only
    rw [if_pos (by omega), show b = b' by omega]
  | l + 1, b, hl, h1, h2 => by
    have hw := crow_at (n := n) (m := m) (r := l + 1) hm (by omega)
    unfold dnF
    rw [hw]
    dsimp only
    have e : TT n m (l + 1) = TT n m l + rowG n m (l + 1) := rfl
    by_cases he : l' = l + 1
    · subst he
      rw [if_pos (by omega), show b = b' by omega]
    · have hmn := TT_mono (n := n) (m := m) (show l' ≤ l by omega)
      rw [if_neg (by omega)]
      exact dnF_of hm hb' (by omega) (by omega) (by omega)
/-- merges that may follow on r runs -/
def okR : Nat → List Nat → Prop
  | _, [] => True
  | r, m :: p => m ≤ r ∧ okR (r + 1 - m) p
theorem ixF_add {n : Nat} : ∀ {p : List Nat} {i r b c : Nat}, ixF n p i r (b + c) = b + ixF n p i r c
  | [], _, _, _, _ => rfl
  | m :: p, i, r, b, c => by
    unfold ixF
    rw [Nat.add_assoc, ixF_add]
theorem ixF_cons {n m i r : Nat} {p : List Nat} (hi : i + 1 ≤ n) (hr : r ≤ i) (hmr : m ≤ r) : ixF n (m :: p) i r 0 + TT n (n - 1 - i) (r + 1 - m) = TT n (n - 1 - i) (r + 1) + ixF n p (i + 1) (r + 1 - m) 0 := by
  have h := TT_mid (n := n) (m := n - 1 - i) (by omega) (r + 1 - m) m (by omega)
  rw [show r + 1 - m + m = r + 1 by omega] at h
  have e : ixF n (m :: p) i r 0 = (((crow n (n - 1 - i)).drop (r + 1 - m + 1)).take m).sum + ixF n p (i + 1) (r + 1 - m) 0 := by
    show ixF n p (i + 1) (r + 1 - m) (0 + _) = _
    rw [Nat.zero_add, ← ixF_add]; rfl
  omega
/-- index_of of what may follow is below the number of ways -/
theorem ixF_lt {n : Nat} : ∀ {p : List Nat} {i r : Nat}, p.length + i = n → r ≤ i → okR r p → ixF n p i r 0 < rowG n p.length r
  | [], i, r, h, hr, _ => by
    show 0 < rowG n 0 r
    rw [rowG_zero (by simp at h; omega)]; exact Nat.one_pos
  | m :: p, i, r, h, hr, ⟨h1, h2⟩ => by
    have hl : p.length + (i + 1) = n := by simp at h; omega
    have ih := ixF_lt (p := p) (i := i + 1) (r := r + 1 - m) hl (by omega) h2
    have hc := ixF_cons (n := n) (m := m) (i := i) (r := r) (p := p) (by omega) hr h1
    have ek : n - 1 - i = p.length := by omega
    rw [ek] at hc
    show _ < rowG n (p.length + 1) r
    rw [rowG_succ (by omega)]
    have e : TT n p.length (r + 1 - m) = TT n p.length (r - m) + rowG n p.length (r + 1 - m) := by
      rw [show r + 1 - m = (r - m) + 1 by omega]; rfl
    omega
/-- schedule_at of index_of -/
theorem atL_ixF {n : Nat} : ∀ {p : List Nat} {i r : Nat}, p.length + i = n → r ≤ i → okR r p → atL n p.length i r (ixF n p i r 0) = some p
  | [], _, _, _, _, _ => rfl
  | m :: p, i, r, h, hr, ⟨h1, h2⟩ => by
    have hl : p.length + (i + 1) = n := by simp at h; omega
    have ih := atL_ixF (p := p) (i := i + 1) (r := r + 1 - m) hl (by omega) h2
    have hlt := ixF_lt (p := p) (i := i + 1) (r := r + 1 - m) hl (by omega) h2
    have hc := ixF_cons (n := n) (m := m) (i := i) (r := r) (p := p) (by omega) hr h1
    have ek : n - 1 - i = p.length := by omega
    rw [ek] at hc
    show atL n (p.length + 1) i r _ = _
    unfold atL
    rw [ek, dnF_of (n := n) (m := p.length) (by omega) hlt (by omega) (by omega) hc]
    dsimp only
    rw [ih]
    show some ((r + 1 - (r + 1 - m)) :: p) = _
    rw [show r + 1 - (r + 1 - m) = m by omega]
/-- index_of of schedule_at -/
theorem atL_some {n : Nat} : ∀ {k i r b : Nat}, k + i = n → r ≤ i → b < rowG n k r → ∃ p, atL n k i r b = some p ∧ p.length = k ∧ okR r p ∧ ixF n p i r 0 = b
  | 0, i, r, b, h, hr, hb => by
    rw [rowG_zero (by omega)] at hb
    exact ⟨[], rfl, rfl, trivial, by show (0 : Nat) = b; omega⟩
  | k + 1, i, r, b, h, hr, hb => by
    rw [rowG_succ (by omega)] at hb
    have ek : n - 1 - i = k := by omega
    obtain ⟨l', b', h1, h2, h3, h4, h5⟩ := dnF_some (n := n) (m := k) (by omega) (l := r + 1) (by omega) hb
    obtain ⟨p, g1, g2, g3, g4⟩ := atL_some (k := k) (i := i + 1) (r := l') (b := b') (by omega) (by omega) h4
    refine ⟨(r + 1 - l') :: p, ?_, by simp [g2], ⟨by omega, by rw [show r + 1 - (r + 1 - l') = l' by omega]; exact g3⟩, ?_⟩
    · unfold atL
      rw [ek, h1]
      dsimp only
      rw [g1]; rfl
    · have hc := ixF_cons (n := n) (m := r + 1 - l') (i := i) (r := r) (p := p) (by omega) hr (by omega)
      rw [ek, show r + 1 - (r + 1 - l') = l' by omega, g4] at hc
      omega
/-- the draws' list: a number not below 0, a seed, a count of at most n -/
def Pot (H : Hp) (a : Addr) (n : Int) : Prop := ∃ d s m : Int, H a = some (.lst [.int d, .int s, .int m]) ∧ 0 ≤ d ∧ 0 ≤ s ∧ s < 2 ^ 61 ∧ 0 ≤ m ∧ m ≤ n
theorem Pot.mono {H : Hp} {a : Addr} {n k : Int} (h : Pot H a n) (e : n ≤ k) : Pot H a k := by
  obtain ⟨d, s, m, h1, h2, h3, h4, h5, h6⟩ := h
  exact ⟨d, s, m, h1, h2, h3, h4, h5, by omega⟩
theorem Pot.same {H H' : Hp} {a : Addr} {n : Int} (h : Pot H a n) (e : Same H H') : Pot H' a n := by
  obtain ⟨d, s, m, h1, r⟩ := h
  exact ⟨d, s, m, e _ _ h1, r⟩
theorem Pot.keep {K : PySem.W.Frag} {H H' : Hp} {a : Addr} {n : Int} (h : Pot H a n) (e : But a H H') : Keep K H H' := by
  obtain ⟨d, s, m, h1, r⟩ := h
  exact But.keep e h1
theorem Pot.ne {H : Hp} {a b : Addr} {n : Int} (h : Pot H a n) (e : H b = none) : b ≠ a := fun z => by
  obtain ⟨d, s, m, h1, r⟩ := h
  rw [z, h1] at e; cases e
theorem But.free {a l : Addr} {H H' : Hp} (b : But a H H') (h : H' l = none) (n : l ≠ a) : H l = none := by
  cases e : H l with
  | none => rfl
  | some o => rw [b _ _ n e] at h; cases h
theorem But.mut {a l : Addr} {H H' : Hp} {o : HO} (b : But a H H') (h : H l = none) : But a H (L2.upd H' l o) := fun c u n e => by
  rw [upd_ne (ne_of_none e h)]; exact b _ _ n e
theorem Pot.upd {H : Hp} {a l : Addr} {n : Int} {o : HO} (h : Pot H a n) (e : l ≠ a) : Pot (L2.upd H l o) a n := by
  obtain ⟨d, s, m, h1, r⟩ := h
  exact ⟨d, s, m, by rw [upd_ne e.symm]; exact h1, r⟩
theorem na_lt {x : Int} {n : Nat} (h0 : 0 ≤ x) (h1 : x < ((2 ^ n : Nat) : Int)) : x.natAbs < 2 ^ n := by omega
theorem bit01 (b : Bool) : (if b = true then (1 : Int) else 0).natAbs < 2 ^ 2 ∧ (0 : Int) ≤ (if b = true then (1 : Int) else 0) := by cases b <;> exact ⟨by decide, by decide⟩
set_option exponentiation.threshold 2000
section
variable {P : Program} {w : World} {K : PySem.W.Frag} {mg : Str → Option Value} {base : Heap}
def sp_L_pot (K : PySem.W.Frag) : Sp := fun vs H Q _ => ∃ (a : Addr) (ns : List Int) (pl : Nat), vs = [.ref a, .int (pl : Int)] ∧ SqL K H a (ns.map V.int) ∧ pl ≤ 62 ∧ ∀ H' p, Same H H' → H p = none → Pot H' p 0 → Q (.ref p) H'
theorem ok_L_pot (TX : Tx K mg) : FnOk P w K mg base CX0 1 TX.a_L_pot TX.fd_L_pot ["_law_script", "_law_place"] (sp_L_pot K) := by
  refine TX.f_L_pot.ok sc_L_pot (fun vs H Q E h => ?_) (fun cdv A outer s H vs Q E hr h => ?_)
  · obtain ⟨a, ns, pl, rfl, _⟩ := h; rfl
  · obtain ⟨a, ns, pl, rfl, hS, hpl, q⟩ := h
    refine ⟨_, (pss_cons (ps_set (i := 2) sc_L_pot.nd rfl (.inl rfl) (pe_ifExp (pt_cmpR op_lt (pv 1) (pe_callB (id := "len") (k_len (K := K) rfl) (by rfl) TX.b_len (by decide +kernel) (pa_cons (pv 0) pa_nil)) (nomark _)) (pe_ix (k_ixL (K := K) rfl) (pv 0) (pv 1) (fun _ _ => rfl)) pe_int))
      (pss_cons (ps_set (i := 3) sc_L_pot.nd rfl (.inl rfl) (pe_op op_mulW (pe_op op_mod (pe_callB (id := "abs") call_abs (by rfl) TX.b_abs (by decide +kernel) (pa_cons (pv 2) pa_nil)) (pe_op op_powW (pe_op op_powW pe_int pe_int) pe_int)) (pe_callTy (T := "int") call_int1 (by rfl) TX.b_int (by decide +kernel) (pa_cons (pe_cmpR op_ge (pe_callB (id := "abs") call_abs (by rfl) TX.b_abs (by decide +kernel) (pa_cons (pv 2) pa_nil)) (pe_op op_powW pe_int pe_int) (nomark _)) pa_nil))))
      (pss_one (ps_ret (pe_lst (pa_cons (pv 3) (pa_cons (pe_op op_mod (pe_op op_mulW (pe_op op_add (pe_op op_add (pe_op op_mod (pv 2) pe_int) (pe_op op_mulW (pe_op op_mulW pe_int (pv 1)) (pv 1))) pe_int) pe_int) pe_int) (pa_cons pe_int pa_nil)))))))), ?_⟩
    refine ⟨_, rfl, .ref a, rfl, a, _, rfl, .inl hS, _, _, rfl, rfl, _, rfl, ?_⟩
    have P0 : (0 : Int) < (10 ^ (60 : Int).toNat) ^ (5 : Int).toNat := by decide +kernel
    have P1 : ((10 ^ (60 : Int).toNat) ^ (5 : Int).toNat : Int) < ((2 ^ 1000 : Nat) : Int) := by decide +kernel
    have nl1 : ∀ pl : Nat, pl ≤ 62 → (0 : Int) ≤ 1299709 * (pl : Int) * (pl : Int) ∧ 1299709 * (pl : Int) * (pl : Int) ≤ 1299709 * 3844 := fun pl h => by
      have h1 : (pl : Int) * (pl : Int) ≤ 62 * 62 := Int.mul_le_mul (by omega) (by omega) (by omega) (by omega)
      have h2 : (0 : Int) ≤ (pl : Int) * (pl : Int) := Int.mul_nonneg (by omega) (by omega)
      rw [Int.mul_assoc]; omega
    refine ite2 (fun h => ?_) (fun h => ?_)
    · have hlt : pl < ns.length := by
        have := of_decide_eq_true h
        rw [List.length_map] at this
        omega
      refine ⟨.ref a, rfl, _, rfl, a, _, _, .int ns[pl], rfl, rfl, hS, atI_nat (by rw [List.getElem?_map, List.getElem?_eq_getElem hlt]; rfl), ?_⟩
      have c0 := Int.emod_nonneg (ns[pl]) (show (2305843009213693951 : Int) ≠ 0 by decide)
      have c1 := Int.emod_lt_of_pos (ns[pl]) (show (0 : Int) < 2305843009213693951 by decide)
      refine ⟨_, rfl, _, rfl, _, _, rfl, rfl, ⟨by decide, by decide +kernel⟩, _, _, rfl, rfl, ⟨by decide, by decide +kernel⟩, _, _, rfl, rfl, P0, _, rfl, _, rfl, _, _, rfl, rfl, ⟨by decide, by decide +kernel⟩, _, _, rfl, rfl, .inr ⟨_, rfl, _, _, rfl, rfl, ?_, ?_⟩⟩
      · exact wide_mul (a := 1000) (b := 2) (na_lt (Int.emod_nonneg _ (Int.ne_of_gt P0)) (Int.lt_trans (Int.emod_lt_of_pos _ P0) P1)) (bit01 _).1 (by decide) (by decide) (by decide)
      · refine ⟨_, rfl, _, rfl, _, _, rfl, rfl, (show (0 : Int) < 2305843009213693951 by decide), _, rfl, _, _, rfl, rfl, wide_mul (a := 21) (b := 7) (by decide) (by omega) (by decide) (by decide) (by decide), _, rfl, _, _, rfl, rfl, wide_mul (a := 28) (b := 7) (by omega) (by omega) (by decide) (by decide) (by decide), _, _, rfl, rfl, _, _, rfl, rfl, _, _, rfl, rfl, ?_, _, _, rfl, rfl, (show (0 : Int) < 2305843009213693921 by decide), sz60 (by simp), fun p np => q _ p (same_upd np) np ?_⟩
        · refine wide_mul (a := 62) (b := 16) (na_lt ?_ ?_) (by decide) (by decide) (by decide) (by decide)
          · have := nl1 pl hpl; omega
          · have := nl1 pl hpl; omega
        · refine ⟨_, _, _, upd_same, ?_, Int.emod_nonneg _ (by decide), Int.lt_trans (Int.emod_lt_of_pos _ (by decide)) (by decide), by decide, by decide⟩
          refine Int.mul_nonneg (Int.emod_nonneg _ (Int.ne_of_gt P0)) ?_
          exact (bit01 _).2
    · show tSeq _ _ _ _ _
      have c0 := Int.emod_nonneg (0) (show (2305843009213693951 : Int) ≠ 0 by decide)
      have c1 := Int.emod_lt_of_pos (0) (show (0 : Int) < 2305843009213693951 by decide)
      refine ⟨_, rfl, _, rfl, _, _, rfl, rfl, ⟨by decide, by decide +kernel⟩, _, _, rfl, rfl, ⟨by decide, by decide +kernel⟩, _, _, rfl, rfl, P0, _, rfl, _, rfl, _, _, rfl, rfl, ⟨by decide, by decide +kernel⟩, _, _, rfl, rfl, .inr ⟨_, rfl, _, _, rfl, rfl, ?_, ?_⟩⟩
      · exact wide_mul (a := 1000) (b := 2) (na_lt (Int.emod_nonneg _ (Int.ne_of_gt P0)) (Int.lt_trans (Int.emod_lt_of_pos _ P0) P1)) (bit01 _).1 (by decide) (by decide) (by decide)
      · refine ⟨_, rfl, _, rfl, _, _, rfl, rfl, (show (0 : Int) < 2305843009213693951 by decide), _, rfl, _, _, rfl, rfl, wide_mul (a := 21) (b := 7) (by decide) (by omega) (by decide) (by decide) (by decide), _, rfl, _, _, rfl, rfl, wide_mul (a := 28) (b := 7) (by omega) (by omega) (by decide) (by decide) (by decide), _, _, rfl, rfl, _, _, rfl, rfl, _, _, rfl, rfl, ?_, _, _, rfl, rfl, (show (0 : Int) < 2305843009213693921 by decide), sz60 (by simp), fun p np => q _ p (same_upd np) np ?_⟩
        · refine wide_mul (a := 62) (b := 16) (na_lt ?_ ?_) (by decide) (by decide) (by decide) (by decide)
          · have := nl1 pl hpl; omega
          · have := nl1 pl hpl; omega
        · refine ⟨_, _, _, upd_same, ?_, Int.emod_nonneg _ (by decide), Int.lt_trans (Int.emod_lt_of_pos _ (by decide)) (by decide), by decide, by decide⟩
          refine Int.mul_nonneg (Int.emod_nonneg _ (Int.ne_of_gt P0)) ?_
          exact (bit01 _).2
def sp_L_take (K : PySem.W.Frag) : Sp := fun vs H Q _ => ∃ (a : Addr) (z n : Int), vs = [.ref a, .int z] ∧ Pot H a n ∧ n ≤ 100000 ∧ 1 ≤ z ∧ z ≤ 2 ^ 120 ∧ ∀ H' r, But a H H' → Pot H' a (n + 1) → 0 ≤ r → r < z → Q (.int r) H'
theorem prime_at {m : Int} (h0 : 0 ≤ m) : ∃ v : Int, atI [V.int 2305843009213693951, V.int 2305843009213693921, V.int 2305843009213693907, V.int 67280421310721] (m % 4) = some (.int v) ∧ 0 < v ∧ v < 2 ^ 61 := by
  have h : m % 4 = 0 ∨ m % 4 = 1 ∨ m % 4 = 2 ∨ m % 4 = 3 := by omega
  rcases h with h | h | h | h <;> rw [h]
  · exact ⟨2305843009213693951, rfl, by decide, by decide⟩
  · exact ⟨2305843009213693921, rfl, by decide, by decide⟩
  · exact ⟨2305843009213693907, rfl, by decide, by decide⟩
  · exact ⟨67280421310721, rfl, by decide, by decide⟩
theorem ok_L_take (TX : Tx K mg) : FnOk P w K mg base CX0 1 TX.a_L_take TX.fd_L_take ["_law_pot", "_law_size"] (sp_L_take K) := by
  refine TX.f_L_take.ok sc_L_take (fun vs H Q E h => ?_) (fun cdv A outer s H vs Q E hr h => ?_)
  · obtain ⟨a, z, n, rfl, _⟩ := h; rfl
  · obtain ⟨a, z, n, rfl, ⟨d, sd, m, hp, hd, hs0, hs1, hm0, hm1⟩, hn, hz1, hz2, q⟩ := h
    refine ⟨_, (pss_cons (ps_if (pt_cmpR op_gt (pe_ix (k_ixL (K := K) rfl) (pv 0) pe_int (fun _ _ => rfl)) pe_int (nomark _))
        (pss_cons (ps_set (i := 2) sc_L_take.nd rfl (.inl rfl) (pe_op op_mod (pe_ix (k_ixL (K := K) rfl) (pv 0) pe_int (fun _ _ => rfl)) (pv 1)))
        (pss_cons (ps_asg (pe_op op_fdivW (pe_ix (k_ixL (K := K) rfl) (pv 0) pe_int (fun _ _ => rfl)) (pv 1)) (pg_sub (pv 0) pe_int set_list))
        (pss_one (ps_ret (pv 2)))))
        pss_nil)
      (pss_cons (ps_set (i := 3) sc_L_take.nd rfl (.inl rfl) (pe_op op_add (pe_ix (k_ixL (K := K) rfl) (pv 0) pe_int (fun _ _ => rfl)) pe_int))
      (pss_cons (ps_asg (pv 3) (pg_sub (pv 0) pe_int set_list))
      (pss_cons (ps_set (i := 4) sc_L_take.nd rfl (.inl rfl) (pe_ix (k_ixL (K := K) rfl) (pe_lst (pa_cons pe_int (pa_cons pe_int (pa_cons pe_int (pa_cons pe_int pa_nil))))) (pe_op op_mod (pv 3) pe_int) (fun _ _ => rfl)))
      (pss_cons (ps_set (i := 5) sc_L_take.nd rfl (.inl rfl) (pe_op op_mod (pe_op op_pow (pe_op op_add (pe_op op_add (pe_ix (k_ixL (K := K) rfl) (pv 0) pe_int (fun _ _ => rfl)) (pe_op op_mulW (pe_op op_mulW pe_int (pv 3)) (pv 3))) (pe_op op_mulW pe_int (pv 3))) pe_int) (pv 4)))
      (pss_one (ps_ret (pe_op op_mod (pe_op op_fdivW (pe_op op_mod (pe_op op_mulW (pv 5) (pe_op op_add (pe_op op_mod (pv 5) pe_int) (pe_op op_mulW pe_int (pv 3)))) pe_int) pe_int) (pv 1))))))))), ?_⟩
    refine ⟨.ref a, rfl, a, _, _, .int d, rfl, rfl, .inl (.inl hp), rfl, _, _, rfl, rfl, _, rfl, ite2 (fun h => ?_) (fun h => ?_)⟩
    · refine ⟨.ref a, rfl, a, _, _, .int d, rfl, rfl, .inl (.inl hp), rfl, _, rfl, _, _, rfl, rfl, (show 0 < z by omega), ?_⟩
      refine ⟨.ref a, rfl, a, _, _, .int d, rfl, rfl, .inl (.inl hp), rfl, _, rfl, _, _, rfl, rfl, wide_div (b := 121) (by omega) (by omega) (by decide) (by decide), .ref a, rfl, a, _, 0, 0, rfl, rfl, hp, rfl, ?_⟩
      refine ⟨_, rfl, q _ _ But.upd ⟨d / z, sd, m, upd_same, Int.ediv_nonneg hd (by omega), hs0, hs1, hm0, by omega⟩ (Int.emod_nonneg _ (by omega)) (Int.emod_lt_of_pos _ (by omega))⟩
    · refine ⟨.ref a, rfl, a, _, _, .int m, rfl, rfl, .inl (.inl hp), rfl, _, _, rfl, rfl, ?_⟩
      refine ⟨_, rfl, .ref a, rfl, a, _, 2, 2, rfl, rfl, hp, rfl, ?_⟩
      have hp1 : (upd H a (.lst (List.set [V.int d, V.int sd, V.int m] 2 (V.int (m + 1))))) a = some (.lst [V.int d, V.int sd, V.int (m + 1)]) := upd_same
      have b1 : But a H (upd H a (.lst (List.set [V.int d, V.int sd, V.int m] 2 (V.int (m + 1))))) := But.upd
      generalize upd H a (.lst (List.set [V.int d, V.int sd, V.int m] 2 (V.int (m + 1)))) = H1 at hp1 b1 ⊢
      refine ⟨sz60 (by simp), fun pl npl => ?_⟩
      have s2 := same_upd (o := .lst [V.int 2305843009213693951, V.int 2305843009213693921, V.int 2305843009213693907, V.int 67280421310721]) npl
      have hp2 := s2 _ _ hp1
      obtain ⟨pr, hpr, pr0, pr1⟩ := prime_at (m := m + 1) (by omega)
      refine ⟨_, rfl, _, _, rfl, rfl, (show (0 : Int) < 4 by decide), pl, _, _, .int pr, rfl, rfl, .inl (.inl upd_same), hpr, ?_⟩
      have k1 : (m + 1) * (m + 1) ≤ 100001 * 100001 := Int.mul_le_mul (by omega) (by omega) (by omega) (by omega)
      have k2 : (0 : Int) ≤ (m + 1) * (m + 1) := Int.mul_nonneg (by omega) (by omega)
      have k3 : 6700417 * (m + 1) * (m + 1) = 6700417 * ((m + 1) * (m + 1)) := Int.mul_assoc _ _ _
      refine ⟨.ref a, rfl, a, _, _, .int sd, rfl, rfl, .inl (.inl hp2), rfl, _, rfl, _, _, rfl, rfl, wide_mul (a := 23) (b := 18) (by decide) (by omega) (by decide) (by decide) (by decide), _, rfl, _, _, rfl, rfl, wide_mul (a := 42) (b := 18) (by omega) (by omega) (by decide) (by decide) (by decide), _, _, rfl, rfl, _, rfl, _, _, rfl, rfl, wide_mul (a := 17) (b := 18) (by decide) (by omega) (by decide) (by decide) (by decide), _, _, rfl, rfl, _, _, rfl, rfl, ⟨by decide, by decide, by omega⟩, _, rfl, _, _, rfl, rfl, pr0, ?_⟩
      generalize hmx : (sd + 6700417 * (m + 1) * (m + 1) + 65537 * (m + 1)) ^ (3 : Int).toNat % pr = mx
      have mx0 : 0 ≤ mx := by rw [← hmx]; exact Int.emod_nonneg _ (by omega)
      have mx1 : mx < pr := by rw [← hmx]; exact Int.emod_lt_of_pos _ pr0
      refine ⟨_, rfl, _, rfl, _, _, rfl, rfl, (show (0 : Int) < 10007 by decide), _, rfl, _, _, rfl, rfl, wide_mul (a := 7) (b := 18) (by decide) (by omega) (by decide) (by decide) (by decide), _, _, rfl, rfl, _, _, rfl, rfl, wide_mul (a := 61) (b := 25) (by omega) (by omega) (by decide) (by decide) (by decide), _, _, rfl, rfl, (show (0 : Int) < 2305843009213693669 by decide), _, _, rfl, rfl, wide_div (b := 13) (by decide) (by decide) (by decide) (by decide), _, rfl, _, _, rfl, rfl, (show 0 < z by omega), ?_⟩
      exact q _ _ (b1.trans (But.of s2)) ⟨d, sd, m + 1, hp2, hd, hs0, hs1, by omega, by omega⟩ (Int.emod_nonneg _ (by omega)) (Int.emod_lt_of_pos _ (by omega))
def sp_L_of (K : PySem.W.Frag) : Sp := fun vs H Q _ => ∃ (a l : Addr) (xs : List V) (n : Int), vs = [.ref a, .ref l] ∧ Pot H a n ∧ n ≤ 100000 ∧ H l = some (.lst xs) ∧ l ≠ a ∧ xs ≠ [] ∧ xs.length ≤ 1000 ∧ ∀ H' v, But a H H' → Pot H' a (n + 1) → v ∈ xs → Q v H'
theorem ok_L_of (TX : Tx K mg) : FnOk P w K mg base CX0 2 TX.a_L_of TX.fd_L_of ["_law_pot", "_law_options"] (sp_L_of K) := by
  refine TX.f_L_of.ok sc_L_of (fun vs H Q E h => ?_) (fun cdv A outer s H vs Q E hr h => ?_)
  · obtain ⟨a, l, xs, n, rfl, _⟩ := h; rfl
  · obtain ⟨a, l, xs, n, rfl, hp, hn, hl, nla, hne, hlen, q⟩ := h
    refine ⟨_, (pss_one (ps_ret (pe_ix (k_ixL (K := K) rfl) (pv 1) (pe_call (ok_L_take TX) (hr.mono (by decide)) (by rfl) TX.g_L_take TX.f_L_take.kp TX.bd_L_take .nil pass0 (pa_cons (pv 0) (pa_cons (pe_callB (id := "len") (k_len (K := K) rfl) (by rfl) TX.b_len (by decide +kernel) (pa_cons (pv 1) pa_nil)) pa_nil))) (fun _ _ => rfl)))), ?_⟩
    have h0 : 0 < xs.length := List.length_pos_iff.mpr hne
    refine ⟨.ref l, rfl, .ref a, rfl, .ref l, rfl, l, _, rfl, .inl (.inl (.inl hl)), a, _, n, rfl, hp, hn, by omega, by omega, fun H' r b1 p1 r0 r1 => ?_⟩
    have er : r = ((r.toNat : Nat) : Int) := by omega
    have hr1 : r.toNat < xs.length := by omega
    have hat : atI xs r = some xs[r.toNat] := by
      have := atI_nat (List.getElem?_eq_getElem hr1)
      rwa [← er] at this
    exact ⟨l, xs, r, xs[r.toNat], rfl, rfl, .inl (.inl (b1 _ _ nla hl)), hat, q _ _ b1 p1 (List.getElem_mem ..)⟩
/-- the options of a flush -/
def Opts (H : Hp) (o : Addr) (k : Nat) : Prop := ∃ xs : List V, H o = some (.lst xs) ∧ xs ≠ [] ∧ xs.length ≤ 1000 ∧ ∀ v, v ∈ xs → ∃ j : Nat, v = .int (j : Int) ∧ j ≤ k
def DrawInv (H : Hp) (a : Addr) (sz wy : Int) (l : Addr) (n : Int) (t : T) (σ : L2.St) (H' : Hp) : Prop :=
  ∃ y6 y7 : Option V, ∃ o : Addr, σ = [some (.ref a), some (.int sz), some (.int wy), some (.ref l), some (.int (t.runs : Int)), y6, some (.ref o), y7] ∧ But a H H' ∧ Pot H' a n ∧ H' l = some (.lst (vi t.sch)) ∧ o ≠ a ∧ o ≠ l ∧ Opts H' o t.runs
def sp_L_drawn (K : PySem.W.Frag) : Sp := fun vs H Q _ => ∃ (a : Addr) (k : Nat) (n : Int), vs = [.ref a, .int (k : Int)] ∧ Pot H a n ∧ n ≤ 90000 ∧ k ≤ 60 ∧ ∀ H' p (t : T), But a H H' → Pot H' a (n + 200) → t.size = k → SqT K H' p (vi t.sch) → Q (.ref p) H'
theorem ok_L_drawn (TX : Tx K mg) : FnOk P w K mg base CX0 3 TX.a_L_drawn TX.fd_L_drawn ["_law_pot", "_law_size"] (sp_L_drawn K) := by
  refine TX.f_L_drawn.ok sc_L_drawn (fun vs H Q E h => ?_) (fun cdv A outer s H vs Q E hr h => ?_)
  · obtain ⟨a, k, n, rfl, _⟩ := h; rfl
  · obtain ⟨a, k, n, rfl, hp, hn, hk, q⟩ := h
    refine ⟨_, (pss_cons (ps_par3 (i := 2) (j := 3) (l := 4) (by rfl) sc_L_drawn.nd rfl rfl rfl (by decide) (by decide) (by decide) rfl rfl rfl (pa_cons (pe_call (ok_L_take TX) (hr.mono (by decide)) (by rfl) TX.g_L_take TX.f_L_take.kp TX.bd_L_take .nil pass0 (pa_cons (pv 0) (pa_cons pe_int pa_nil))) (pa_cons (pe_lst pa_nil) (pa_cons pe_int pa_nil))) (by rfl))
      (pss_cons (ps_for PassesOwn.never rfl (pi_range1 (by rfl) TX.b_range (pa_cons (pv 1) pa_nil)) (pg_name (i := 5) sc_L_drawn.nd rfl (.inl rfl))
        (pss_cons (ps_set (i := 6) sc_L_drawn.nd rfl (.inl rfl) (pe_lst (pa_cons (pe_call (ok_L_take TX) (hr.mono (by decide)) (by rfl) TX.g_L_take TX.f_L_take.kp TX.bd_L_take .nil pass0 (pa_cons (pv 0) (pa_cons (pe_op op_add (pv 4) pe_int) pa_nil))) pa_nil)))
        (pss_cut (ps_if (pt_cmpR op_eq (pv 2) pe_int (nomark _))
          (pss_one (ps_set (i := 6) sc_L_drawn.nd rfl (.inl rfl) (pe_lst (pa_cons pe_int (pa_cons pe_int (pa_cons (pe_callB (id := "min") (call_min2 rfl) (by rfl) TX.b_min (by decide +kernel) (pa_cons pe_int (pa_cons (pv 4) pa_nil))) (pa_cons (pe_call (ok_L_take TX) (hr.mono (by decide)) (by rfl) TX.g_L_take TX.f_L_take.kp TX.bd_L_take .nil pass0 (pa_cons (pv 0) (pa_cons (pe_op op_add (pv 4) pe_int) pa_nil))) pa_nil)))))))
          pss_nil)
        (pss_cut (ps_if (pt_cmpR op_eq (pv 2) pe_int (nomark _))
          (pss_one (ps_set (i := 6) sc_L_drawn.nd rfl (.inl rfl) (pe_lst (pa_cons (pv 4) (pa_cons (pe_callB (id := "max") (call_max2 rfl) (by rfl) TX.b_max (by decide +kernel) (pa_cons pe_int (pa_cons (pe_op op_sub (pv 4) pe_int) pa_nil))) (pa_cons (pv 4) pa_nil))))))
          pss_nil)
        (pss_cut (ps_if (pt_cmpR op_eq (pv 2) pe_int (nomark _))
          (pss_one (ps_set (i := 6) sc_L_drawn.nd rfl (.inl rfl) (pe_lst (pa_cons pe_int (pa_cons (pv 4) pa_nil)))))
          pss_nil)
        (pss_cons (ps_set (i := 7) sc_L_drawn.nd rfl (.inl rfl) (pe_call (ok_L_of TX) (hr.mono (by decide)) (by rfl) TX.g_L_of TX.f_L_of.kp TX.bd_L_of .nil pass0 (pa_cons (pv 0) (pa_cons (pv 6) pa_nil))))
        (pss_cons (ps_expr (pe_bm PySem.F.plainAttrs_list PySem.F.slot_list_append PySem.F.type_list_append mt_append (pv 3) (pa_cons (pv 7) pa_nil)))
        (pss_one (ps_set (i := 4) sc_L_drawn.nd rfl (.inl rfl) (pe_op op_add (pe_op op_sub (pv 4) (pv 7)) pe_int))))))))))
      (pss_one (ps_ret (pe_callTy (T := "tuple") (k_tupOf (K := K) rfl) (by rfl) TX.b_tuple (by decide +kernel) (pa_cons (pv 3) pa_nil)))))), ?_⟩
    refine ⟨.ref a, rfl, a, 4, n, rfl, hp, by omega, by decide, by decide, fun H1 wy b1 p1 w0 w1 => ⟨sz60 (by simp), fun l nl => ⟨_, _, _, rfl, ?_⟩⟩⟩
    have s2 := same_upd (o := .lst []) nl
    have nla : l ≠ a := p1.ne nl
    refine ⟨_, rfl, _, rfl, by omega, by omega, for_range (lo := 0) (n := ((k : Nat) : Int).toNat) (fun i σ H' => ∃ (y5 y6 y7 : Option V) (t : T), σ = [some (.ref a), some (.int (k : Int)), some (.int wy), some (.ref l), some (.int (t.runs : Int)), y5, y6, y7] ∧ t.size = i ∧ But a H H' ∧ Pot H' a (n + 1 + 3 * (i : Int)) ∧ H' l = some (.lst (vi t.sch)))
      ⟨none, none, none, .nil, rfl, rfl, b1.trans (But.of s2), (p1.same s2).mono (by omega), upd_same⟩ ?_ ?_⟩
    · rintro i σ H2 hi ⟨y5, y6, y7, t, rfl, ht, b2, p2, h2⟩
      have hi' : i < 60 := by omega
      have hrs := T.runs_le t
      refine ⟨.ref a, rfl, _, rfl, _, _, rfl, rfl, a, _, _, rfl, p2, by omega, by omega, by omega, fun H3 r b3 p3 r0 r1 => ⟨sz60 (by simp), fun o no => ?_⟩⟩
      have s4 := same_upd (o := .lst [V.int r]) no
      have h3 := b3 _ _ nla h2
      have h4 := s4 _ _ h3
      have oa : o ≠ a := p3.ne no
      have ol : o ≠ l := fun e => by rw [e, h3] at no; cases no
      have o4 : Opts (upd H3 o (.lst [V.int r])) o t.runs := ⟨_, upd_same, by simp, by simp, fun v hv => by
        have e : v = .int r := by simpa using hv
        exact ⟨r.toNat, by rw [e]; congr 1; omega, by omega⟩⟩
      have b4 : But a H (upd H3 o (.lst [V.int r])) := (b2.trans b3).trans (But.of s4)
      have p4 := p3.same s4
      generalize upd H3 o (.lst [V.int r]) = H4 at h4 o4 b4 p4 ⊢
      -- way == 1
      refine ⟨DrawInv H a (k : Int) wy l (n + 3 + 3 * (i : Int)) t, ?_, ?_⟩
      · refine ⟨_, rfl, rfl, _, rfl, ite2 (fun e => ?_) (fun e => ?_)⟩
        · refine ⟨_, rfl, _, _, rfl, .ref a, rfl, _, rfl, _, _, rfl, rfl, a, _, _, rfl, p4, by omega, by omega, by omega, fun H5 r' b5 p5 r0' r1' => ⟨sz60 (by simp), fun o' no' => ?_⟩⟩
          have s6 := same_upd (o := .lst [V.int 0, V.int 0, V.int (if (t.runs : Int) < 1 then (t.runs : Int) else 1), V.int r']) no'
          have h5 := b5 _ _ nla h4
          refine ⟨_, _, o', rfl, (b4.trans b5).trans (But.of s6), (p5.same s6).mono (by omega), s6 _ _ h5, p5.ne no', (fun e => by rw [e, h5] at no'; cases no'), _, upd_same, by simp, by simp, fun v hv => ?_⟩
          have e : v = .int 0 ∨ v = .int (if (t.runs : Int) < 1 then (t.runs : Int) else 1) ∨ v = .int r' := by simpa using hv
          rcases e with e | e | e
          · exact ⟨0, by rw [e]; rfl, by omega⟩
          · refine ⟨(if (t.runs : Int) < 1 then (t.runs : Int) else 1).toNat, ?_, ?_⟩
            · rw [e]; congr 1; split <;> omega
            · split <;> omega
          · exact ⟨r'.toNat, by rw [e]; congr 1; omega, by omega⟩
        · exact ⟨_, _, o, rfl, b4, p4.mono (by omega), h4, oa, ol, o4⟩
      rintro σ' H5 ⟨z5, z7, o5, rfl, b5, p5, h5, oa5, ol5, oo5⟩
      -- way == 2
      refine ⟨DrawInv H a (k : Int) wy l (n + 3 + 3 * (i : Int)) t, ?_, ?_⟩
      · refine ⟨_, rfl, rfl, _, rfl, ite2 (fun e => ?_) (fun e => ?_)⟩
        · refine ⟨_, rfl, _, rfl, _, _, rfl, rfl, _, _, rfl, _, rfl, sz60 (by simp), fun o' no' => ?_⟩
          have s6 := same_upd (o := .lst [V.int (t.runs : Int), V.int (if (t.runs : Int) - 1 > 0 then (t.runs : Int) - 1 else 0), V.int (t.runs : Int)]) no'
          refine ⟨_, _, o', rfl, b5.trans (But.of s6), p5.same s6, s6 _ _ h5, p5.ne no', (fun e => by rw [e, h5] at no'; cases no'), _, upd_same, by simp, by simp, fun v hv => ?_⟩
          have e : v = .int (t.runs : Int) ∨ v = .int (if (t.runs : Int) - 1 > 0 then (t.runs : Int) - 1 else 0) ∨ v = .int (t.runs : Int) := by simpa using hv
          rcases e with e | e | e
          · exact ⟨t.runs, e, by omega⟩
          · refine ⟨(if (t.runs : Int) - 1 > 0 then (t.runs : Int) - 1 else 0).toNat, ?_, ?_⟩
            · rw [e]; congr 1; split <;> omega
            · split <;> omega
          · exact ⟨t.runs, e, by omega⟩
        · exact ⟨_, _, o5, rfl, b5, p5, h5, oa5, ol5, oo5⟩
      clear o4 h4 b4 p4 oa ol
      rintro σ' H6 ⟨z5, z7, o6, rfl, b6, p6, h6, oa6, ol6, oo6⟩
      -- way == 3
      refine ⟨DrawInv H a (k : Int) wy l (n + 3 + 3 * (i : Int)) t, ?_, ?_⟩
      · refine ⟨_, rfl, rfl, _, rfl, ite2 (fun e => ?_) (fun e => ?_)⟩
        · refine ⟨_, rfl, sz60 (by simp), fun o' no' => ?_⟩
          have s7 := same_upd (o := .lst [V.int 0, V.int (t.runs : Int)]) no'
          refine ⟨_, _, o', rfl, b6.trans (But.of s7), p6.same s7, s7 _ _ h6, p6.ne no', (fun e => by rw [e, h6] at no'; cases no'), _, upd_same, by simp, by simp, fun v hv => ?_⟩
          have e : v = .int 0 ∨ v = .int (t.runs : Int) := by simpa using hv
          rcases e with e | e
          · exact ⟨0, by rw [e]; rfl, by omega⟩
          · exact ⟨t.runs, e, by omega⟩
        · exact ⟨_, _, o6, rfl, b6, p6, h6, oa6, ol6, oo6⟩
      clear h5 b5 p5 oa5 ol5 oo5
      rintro σ' H7 ⟨z5, z7, o7, rfl, b7, p7, h7, oa7, ol7, xs7, ho7, hne7, hl7, hx7⟩
      refine ⟨.ref a, rfl, .ref o7, rfl, a, o7, xs7, _, rfl, p7, by omega, ho7, oa7, hne7, hl7, fun H8 v b8 p8 hv => ?_⟩
      obtain ⟨j, rfl, hj⟩ := hx7 v hv
      have h8 := b8 _ _ nla h7
      have hsl : (vi t.sch).length ≤ 60 := by rw [vi_len, T.sch_len]; omega
      refine ⟨.ref l, rfl, .inl ⟨rfl, _, .inl (.inl h8)⟩, _, rfl, l, _, _, rfl, rfl, h8, sz61 (by omega), ?_⟩
      refine ⟨_, rfl, _, rfl, _, _, rfl, rfl, _, _, rfl, rfl, ?_⟩
      refine ⟨z5, some (.ref o7), some (.int (j : Int)), t.push j, ?_, by rw [T.push_size t j hj]; omega, But.mut (b7.trans b8) (But.free b1 nl nla), (p8.upd nla).mono (by omega), ?_⟩
      · rw [T.push_runs t j hj]
        rw [show ((t.runs - j + 1 : Nat) : Int) = (t.runs : Int) - (j : Int) + 1 by omega]
        rfl
      · rw [T.push_sch t j hj, vi_app]; exact upd_same
    · rintro σ H2 ⟨y5, y6, y7, t, rfl, ht, b2, p2, h2⟩
      refine ⟨.ref l, rfl, l, _, rfl, .inl ⟨.inl (.inl h2), fun o no => ?_⟩⟩
      exact q _ o t (b2.trans (But.of (same_upd no))) ((p2.same (same_upd no)).mono (by omega)) (by omega) (.inl (.inl upd_same))
end
/-- the runs after i of the merges, from r runs on -/
def rr : Nat → List Nat → Nat → Nat
  | r, _, 0 => r
  | r, [], _ + 1 => r
  | r, m :: p, i + 1 => rr (r + 1 - m) p i
theorem okR_at : ∀ {p : List Nat} {r i m : Nat}, okR r p → p[i]? = some m → m ≤ rr r p i ∧ rr r p (i + 1) = rr r p i - m + 1
  | [], _, _, _, _, h => by simp at h
  | a :: p, r, 0, m, ⟨h1, _⟩, h => by
    cases h
    refine ⟨h1, ?_⟩
    show rr (r + 1 - a) p 0 = r - a + 1
    show r + 1 - a = _
    omega
  | a :: p, r, i + 1, m, ⟨_, h2⟩, h => okR_at (p := p) (r := r + 1 - a) (i := i) h2 h
theorem sch_okR {p : List Nat} (h : okR 0 p) : SchR p (rr 0 p) := ⟨rfl, fun _ _ hm => okR_at h hm⟩
theorem okR_of : ∀ {p : List Nat} {r : Nat → Nat}, (∀ i m, p[i]? = some m → m ≤ r i ∧ r (i + 1) = r i - m + 1) → okR (r 0) p
  | [], _, _ => trivial
  | m :: p, r, h => by
    obtain ⟨h1, h2⟩ := h 0 m rfl
    refine ⟨h1, ?_⟩
    have h3 := okR_of (p := p) (r := fun i => r (i + 1)) fun i m hm => h (i + 1) m hm
    have e : r 0 + 1 - m = r (0 + 1) := by omega
    rw [e]; exact h3
theorem okR_sch (t : T) : okR 0 t.sch := by
  have h := okR_of (p := t.sch) (r := fun i => (pre t i).runs) fun i m hm => by
    obtain ⟨f1, f2⟩ := pre_succ hm
    refine ⟨f2, ?_⟩
    rw [f1, T.push_runs _ _ f2]
  have e : (pre t 0).runs = 0 := by
    have := (pre_size (t := t) (i := 0) (Nat.zero_le _))
    generalize pre t 0 = u at *
    cases u with
    | nil => rfl
    | node a b => simp [T.size] at this
  rw [e] at h
  exact h
/-- the most merges from r runs on: of the last schedule -/
def lastR : Nat → List Nat → Prop
  | _, [] => True
  | r, m :: p => m = r ∧ lastR (r + 1 - m) p
theorem ixF_last {n : Nat} : ∀ {p : List Nat} {i r : Nat}, p.length + i = n → r ≤ i → lastR r p → ixF n p i r 0 + 1 = rowG n p.length r
  | [], i, r, h, hr, _ => by
    show (0 : Nat) + 1 = rowG n 0 r
    rw [rowG_zero (by simp at h; omega)]
  | m :: p, i, r, h, hr, ⟨h1, h2⟩ => by
    subst h1
    have hl : p.length + (i + 1) = n := by simp at h; omega
    have ih := ixF_last (p := p) (i := i + 1) (r := m + 1 - m) hl (by omega) h2
    have hc := ixF_cons (n := n) (m := m) (i := i) (r := m) (p := p) (by omega) hr (Nat.le_refl _)
    have ek : n - 1 - i = p.length := by omega
    rw [ek] at hc
    show _ = rowG n (p.length + 1) m
    rw [rowG_succ (by omega)]
    rw [show m + 1 - m = 1 by omega] at hc ih
    have e : TT n p.length 1 = 0 + rowG n p.length 1 := rfl
    omega
theorem ixF_zeros {n : Nat} : ∀ {k i r : Nat}, k + i = n → r ≤ i → ixF n (List.replicate k 0) i r 0 = 0
  | 0, _, _, _, _ => rfl
  | k + 1, i, r, h, hr => by
    have ih := ixF_zeros (n := n) (k := k) (i := i + 1) (r := r + 1) (by omega) (by omega)
    have hc := ixF_cons (n := n) (m := 0) (i := i) (r := r) (p := List.replicate k 0) (by omega) hr (Nat.zero_le _)
    rw [List.replicate_succ]
    rw [Nat.sub_zero, ih] at hc
    omega
/-- the next schedule's index is the next -/
theorem ixF_next {n : Nat} : ∀ {as : List Nat} {m : Nat} {z : List Nat} {i r : Nat}, as.length + 1 + z.length + i = n → r ≤ i → okR r (as ++ m :: z) → m + 1 ≤ rr r as as.length → lastR (rr r as as.length + 1 - m) z → ixF n (as ++ (m + 1) :: List.replicate z.length 0) i r 0 = ixF n (as ++ m :: z) i r 0 + 1
  | [], m, z, i, r, h, hr, ⟨h1, _⟩, hm, hl => by
    have hm' : m + 1 ≤ r := hm
    have hl' : lastR (r + 1 - m) z := hl
    have hz : z.length + (i + 1) = n := by simp at h; omega
    have a1 := ixF_cons (n := n) (m := m + 1) (i := i) (r := r) (p := List.replicate z.length 0) (by omega) hr hm'
    have a2 := ixF_cons (n := n) (m := m) (i := i) (r := r) (p := z) (by omega) hr h1
    have a3 := ixF_zeros (n := n) (k := z.length) (i := i + 1) (r := r + 1 - (m + 1)) hz (by omega)
    have a4 := ixF_last (n := n) (p := z) (i := i + 1) (r := r + 1 - m) hz (by omega) hl'
    have ek : n - 1 - i = z.length := by omega
    rw [ek] at a1 a2
    rw [a3] at a1
    have e : TT n z.length (r + 1 - m) = TT n z.length (r + 1 - (m + 1)) + rowG n z.length (r + 1 - m) := by
      rw [show r + 1 - m = (r + 1 - (m + 1)) + 1 by omega]; rfl
    show ixF n ((m + 1) :: List.replicate z.length 0) i r 0 = ixF n (m :: z) i r 0 + 1
    omega
  | a :: as, m, z, i, r, h, hr, ⟨h1, h2⟩, hm, hl => by
    have hn : as.length + 1 + z.length + (i + 1) = n := by simp at h; omega
    have ih := ixF_next (n := n) (as := as) (m := m) (z := z) (i := i + 1) (r := r + 1 - a) hn (by omega) h2 hm hl
    have a1 := ixF_cons (n := n) (m := a) (i := i) (r := r) (p := as ++ (m + 1) :: List.replicate z.length 0) (by omega) hr h1
    have a2 := ixF_cons (n := n) (m := a) (i := i) (r := r) (p := as ++ m :: z) (by omega) hr h1
    show ixF n (a :: (as ++ (m + 1) :: List.replicate z.length 0)) i r 0 = ixF n (a :: (as ++ m :: z)) i r 0 + 1
    omega
section
variable {P : Program} {w : World} {K : PySem.W.Frag} {mg : Str → Option Value} {base : Heap}
def sp_L_is_count (K : PySem.W.Frag) : Sp := fun vs H Q _ => ∃ i m : Int, vs = [.int i, .int m] ∧ Q (.bl (decide (0 ≤ i) && decide (i ≤ m))) H
theorem ok_L_is_count (TX : Tx K mg) : FnOk P w K mg base CX0 1 TX.a_L_is_count TX.fd_L_is_count ["_law_item", "_law_most"] (sp_L_is_count K) := by
  refine TX.f_L_is_count.ok sc_L_is_count (fun vs H Q E h => ?_) (fun cdv A outer s H vs Q E hr h => ?_)
  · obtain ⟨i, m, rfl, _⟩ := h; rfl
  · obtain ⟨i, m, rfl, q⟩ := h
    refine ⟨_, (pss_one (ps_ret (pe_and (pe_callB (id := "isinstance") (k_isi (K := K) rfl) (by rfl) TX.b_isinstance (by decide +kernel) (pa_cons (pv 0) (pa_cons (pe_bltn (v := .ty "int") (by rfl) TX.b_int (by decide +kernel) rfl) pa_nil))) (pe_and (pe_not (pe_callB (id := "isinstance") (k_isi (K := K) rfl) (by rfl) TX.b_isinstance (by decide +kernel) (pa_cons (pv 0) (pa_cons (pe_bltn (v := .ty "bool") (by rfl) TX.b_bool (by decide +kernel) rfl) pa_nil)))) (pe_one (pe_chain op_le op_le pe_int (pv 0) (pv 1))))))), ?_⟩
    refine ⟨.int i, rfl, .int i, .ty "int", .type "int", .type "int", true, rfl, .ty _, .base (.int i), kit_ty (by decide +kernel), true, rfl, iteT ?_⟩
    refine ⟨.int i, rfl, .int i, .ty "bool", .type "int", .type "bool", false, rfl, .ty _, .base (.int i), kit_ty (by decide +kernel), false, rfl, true, rfl, iteT ?_⟩
    refine ⟨.int i, rfl, 0, i, rfl, rfl, _, rfl, ?_⟩
    by_cases h0 : 0 ≤ i
    · rw [decide_eq_true h0] at q ⊢
      exact iteT ⟨.int m, rfl, i, m, rfl, rfl, q⟩
    · rw [decide_eq_false h0] at q ⊢
      exact iteF q
def sp_L_valid (K : PySem.W.Frag) : Sp := fun vs H Q _ => ∃ (a : Addr) (p : List Nat) (r : Nat → Nat), vs = [.ref a] ∧ SqT K H a (vi p) ∧ p.length ≤ 60 ∧ SchR p r ∧ Q (.bl true) H
theorem ok_L_valid (TX : Tx K mg) : FnOk P w K mg base CX0 2 TX.a_L_valid TX.fd_L_valid ["_law_item"] (sp_L_valid K) := by
  refine TX.f_L_valid.ok sc_L_valid (fun vs H Q E h => ?_) (fun cdv A outer s H vs Q E hr h => ?_)
  · obtain ⟨a, p, r, rfl, _⟩ := h; rfl
  · obtain ⟨a, p, r, rfl, hS, hz, ⟨hr0, hr1⟩, q⟩ := h
    refine ⟨_, (pss_cons (ps_if (PW.pt (pw_or (pt_not (pt_val (pe_callB (id := "isinstance") (k_isi (K := K) rfl) (by rfl) TX.b_isinstance (by decide +kernel) (pa_cons (pv 0) (pa_cons (pe_bltn (v := .ty "tuple") (by rfl) TX.b_tuple (by decide +kernel) rfl) pa_nil))))) (pw_or1 (pt_cmpR op_gt (pe_callB (id := "len") (k_len (K := K) rfl) (by rfl) TX.b_len (by decide +kernel) (pa_cons (pv 0) pa_nil)) pe_int (nomark _)))))
        (pss_one (ps_ret pe_bl))
        pss_nil)
      (pss_cons (ps_set (i := 1) sc_L_valid.nd rfl (.inl rfl) pe_int)
      (pss_cons (ps_for PassesOwn.never rfl (k_piT (K := K) rfl (pv 0)) (pg_name (i := 2) sc_L_valid.nd rfl (.inl rfl))
        (pss_cons (ps_if (pt_not (pt_val (pe_call (ok_L_is_count TX) (hr.mono (by decide)) (by rfl) TX.g_L_is_count TX.f_L_is_count.kp TX.bd_L_is_count .nil pass0 (pa_cons (pv 2) (pa_cons (pv 1) pa_nil)))))
          (pss_one (ps_ret pe_bl))
          pss_nil)
        (pss_one (ps_set (i := 1) sc_L_valid.nd rfl (.inl rfl) (pe_op op_add (pe_op op_sub (pv 1) (pv 2)) pe_int)))))
      (pss_one (ps_ret pe_bl))))), ?_⟩
    refine ⟨.ref a, rfl, .ref a, .ty "tuple", .type "tuple", .type "tuple", true, rfl, .ty _, ty_tup hS, kit_ty (by decide +kernel), true, rfl, iteF ⟨.ref a, rfl, a, _, rfl, .inr hS, _, _, rfl, rfl, _, rfl, decF (by rw [vi_len]; omega) ?_⟩⟩
    refine ⟨.ref a, rfl, a, rfl, ⟨_, hS⟩, for_tup (K := K) (xs := vi p) (fun i σ H' => H' = H ∧ ∃ y2, σ = [some (.ref a), some (.int (r i : Int)), y2]) ⟨rfl, none, by rw [hr0]; rfl⟩ (fun i σ H' _ h => by rw [h.1]; exact hS) ?_ ?_⟩
    · rintro i x σ H' hx ⟨rfl, y2, rfl⟩
      rw [vi, List.getElem?_map] at hx
      cases hc : p[i]? with
      | none => rw [hc] at hx; cases hx
      | some m =>
        rw [hc] at hx
        cases hx
        obtain ⟨h1, h2⟩ := hr1 i m hc
        refine ⟨_, rfl, _, rfl, _, _, rfl, true, by rw [decide_eq_true (by omega), decide_eq_true (by omega)]; rfl, iteF ⟨_, rfl, _, rfl, _, _, rfl, rfl, _, _, rfl, rfl, rfl, some (.int (m : Int)), ?_⟩⟩
        show [_, _, _] = [_, _, _]
        simp only [List.cons.injEq, Option.some.injEq, V.int.injEq, and_true, true_and]
        omega
    · rintro σ H' ⟨rfl, y2, rfl⟩
      exact q
/-- the numbers, as the law counts them -/
def catS (f : List Nat) (m : Nat) : Nat := ((List.range m).map fun l => f.getD l 0 * f.getD (m - 1 - l) 0).sum
def catN : Nat → List Nat
  | 0 => [1]
  | m + 1 => catN m ++ [catS (catN m) (m + 1)]
theorem catN_len : ∀ m, (catN m).length = m + 1
  | 0 => rfl
  | m + 1 => by simp [catN, catN_len m]
theorem catN_row : ∀ n, n < 61 → (catN 60).getD n 0 = rowG n n 0 ∧ 1 ≤ rowG n n 0 ∧ rowG n n 0 ≤ 2 ^ 119 := by decide +kernel
theorem catN_ok : ∀ i, i < 61 → ((catN i).all fun x => decide (x ≤ 2 ^ 119)) = true := by decide +kernel
def sp_L_numbers (K : PySem.W.Frag) : Sp := fun vs H Q _ => vs = [.int 60] ∧ ∀ H' p, Same H H' → H' p = some (.lst (vi (catN 60))) → Q (.ref p) H'
theorem ok_L_numbers (TX : Tx K mg) : FnOk P w K mg base CX0 1 TX.a_L_numbers TX.fd_L_numbers ["_law_size"] (sp_L_numbers K) := by
  refine TX.f_L_numbers.ok sc_L_numbers (fun vs H Q E h => ?_) (fun cdv A outer s H vs Q E hr h => ?_)
  · obtain ⟨rfl, _⟩ := h; rfl
  · obtain ⟨rfl, q⟩ := h
    refine ⟨_, (pss_cons (ps_set (i := 1) sc_L_numbers.nd rfl (.inr rfl) (pe_lst (pa_cons pe_int pa_nil)))
      (pss_cons (ps_for PassesOwn.never rfl (pi_range2 (by rfl) TX.b_range (pa_cons pe_int (pa_cons (pe_op op_add (pv 0) pe_int) pa_nil))) (pg_name (i := 2) sc_L_numbers.nd rfl (.inr rfl))
        (pss_one (ps_expr (pe_bm PySem.F.plainAttrs_list PySem.F.slot_list_append PySem.F.type_list_append mt_append (pv 1) (pa_cons (pe_callB (id := "sum") (cr_sum rfl) (by rfl) TX.b_sum (by decide +kernel) (pa_cons (pe_lc (own := [("_law_left", 3)]) (by rfl) sc_L_numbers.nd (pi_range1 (by rfl) TX.b_range (pa_cons (pv 2) pa_nil)) (blkOk_by (own := [("_law_left", 3)]) (N := N_L_numbers) (sc := defScope s_L_numbers) (by decide +kernel)) (fun _ _ _ _ _ => (pg_name (i := 3) sc_L_numbers.nd rfl (Or.inl rfl))) (fun _ _ _ _ _ => pts_nil) (fun _ _ _ _ _ => (pe_op op_mulW (pe_ix (k_ixL (K := K) rfl) (pv 1) (pv 3) (fun _ _ => rfl)) (pe_ix (k_ixL (K := K) rfl) (pv 1) (pe_op op_sub (pe_op op_sub (pv 2) pe_int) (pv 3)) (fun _ _ => rfl))))) pa_nil)) pa_nil)))))
      (pss_one (ps_ret (pv 1))))), ?_⟩
    refine ⟨sz60 (by simp), fun p0 n0 => ?_⟩
    have z0 := same_upd (o := .lst [V.int 1]) n0
    have f0 := upd_same (H := H) (a := p0) (o := .lst [V.int 1])
    generalize upd H p0 _ = G0 at *
    refine ⟨_, rfl, _, _, rfl, rfl, _, _, rfl, ⟨by decide, by decide, by decide, by decide⟩, ?_⟩
    rw [show ((60 : Int) + 1 - 1).toNat = 60 from rfl]
    refine for_range (lo := 1) (n := 60) (fun i σ G => ∃ y2 y3, σ = [some (.int 60), some (.ref p0), y2, y3] ∧ Same H G ∧ G p0 = some (.lst (vi (catN i)))) ⟨_, _, rfl, z0, f0⟩ ?_ ?_
    rotate_left
    · rintro σ G ⟨y2, y3, rfl, sG, hp⟩
      exact ⟨_, rfl, q G p0 sG hp⟩
    rintro i σ G hi ⟨y2, y3, rfl, sG, hp⟩
    have hi60 : i < 60 := hi
    have hcl := catN_len i
    have hall := List.all_eq_true.mp (catN_ok i (by omega))
    refine ⟨.ref p0, rfl, .inl ⟨rfl, _, .inl (.inl hp)⟩, _, rfl, _, rfl, by omega, by omega, fun D nD => ?_⟩
    rw [show ((1 : Int) + (i : Int)).toNat = i + 1 by omega]
    have hpH : H p0 = none := n0
    have hDp : D ≠ p0 := fun z => by rw [z, hp] at nD; cases nD
    refine lc_ints (K := K) walk_range (ci ((List.range (i + 1)).map fun l => (catN i).getD l 0 * (catN i).getD (i + 1 - 1 - l) 0)) (by simp [ci]) (by omega) nD (fun _ _ => trivial) ?_ ?_ (fun x σ' H' Q Q' h => h _ _) (fun σ' H' Q Q' h => h _ _)
    · rintro j x Ha Hb hj sa hx b hb R hR
      obtain ⟨rfl, rfl⟩ := hx
      have hp' := sa _ _ hp
      have h1 : (catN i)[j]? = some ((catN i).getD j 0) := by
        rw [List.getD_eq_getElem?_getD, List.getElem?_eq_getElem (by omega)]; rfl
      have h2 : (catN i)[i - j]? = some ((catN i).getD (i - j) 0) := by
        rw [List.getD_eq_getElem?_getD, List.getElem?_eq_getElem (by omega)]; rfl
      have b1 : (catN i).getD j 0 ≤ 2 ^ 119 := of_decide_eq_true (hall _ (List.mem_of_getElem? h1))
      have b2 : (catN i).getD (i - j) 0 ≤ 2 ^ 119 := of_decide_eq_true (hall _ (List.mem_of_getElem? h2))
      have eb : b = (((catN i).getD j 0 : Nat) : Int) * (((catN i).getD (i - j) 0 : Nat) : Int) := by
        unfold ci at hb
        rw [List.getElem?_map, List.getElem?_map, List.getElem?_range hj] at hb
        cases hb
        rw [Nat.add_sub_cancel]
        exact Int.natCast_mul _ _
      have ej : (0 : Int) + (j : Nat) = (j : Int) := by omega
      have ek : (1 : Int) + (i : Int) - 1 - (j : Int) = ((i - j : Nat) : Int) := by omega
      dsimp only
      rw [ej]
      generalize (catN i).getD j 0 = u at *
      generalize (catN i).getD (i - j) 0 = v at *
      refine ⟨rfl, rfl, .ref p0, rfl, _, rfl, p0, _, _, _, rfl, rfl, .inl (.inl hp'), at_vi h1, .ref p0, rfl, _, rfl, _, _, rfl, rfl, _, rfl, _, _, rfl, rfl, p0, _, _, _, rfl, rfl, .inl (.inl hp'), by rw [ek]; exact at_vi h2, _, _, rfl, rfl, wide_mul (a := 120) (b := 120) (by omega) (by omega) (by decide) (by decide) (by decide), ?_⟩
      dsimp only
      rw [← eb]
      exact hR _ (Same.refl _)
    intro G3 s3 hD3
    have hp3 := s3 _ _ hp
    refine ⟨D, _, rfl, .inl (.inl hD3), p0, _, _, rfl, rfl, hp3, sz61 (by rw [vi_len, hcl]; omega), ?_⟩
    refine ⟨_, _, rfl, Same.mut (sG.trans s3) hpH, ?_⟩
    rw [upd_same, sum_ci]
    show some (HO.lst (vi (catN i) ++ [V.int ((catS (catN i) (i + 1) : Nat) : Int)])) = some (HO.lst (vi (catN i ++ [catS (catN i) (i + 1)])))
    rw [vi_app]; rfl
end
theorem rr_sum : ∀ {p : List Nat} {r i : Nat}, okR r p → i ≤ p.length → rr r p i + (p.take i).sum = r + i
  | _, r, 0, _, _ => by simp [rr]
  | [], _, _ + 1, _, h => by simp at h
  | m :: p, r, i + 1, ⟨h1, h2⟩, h => by
    have ih := rr_sum (p := p) (r := r + 1 - m) (i := i) h2 (by simp at h; omega)
    show rr (r + 1 - m) p i + (m :: p.take i).sum = _
    rw [List.sum_cons]; omega
theorem rr_app : ∀ {as : List Nat} {r : Nat} {z : List Nat}, rr r (as ++ z) as.length = rr r as as.length
  | [], _, _ => by simp [rr]
  | a :: as, r, z => rr_app (as := as) (r := r + 1 - a) (z := z)
section
variable {P : Program} {w : World} {K : PySem.W.Frag} {mg : Str → Option Value} {base : Heap}
def sp_L_next (K : PySem.W.Frag) : Sp := fun vs H Q _ => ∃ (a : Addr) (p : List Nat), vs = [.ref a] ∧ SqT K H a (vi p) ∧ p.length ≤ 60 ∧ okR 0 p ∧ (lastR 0 p → ∀ H', Same H H' → Q .non H') ∧ ∀ (as : List Nat) (m : Nat) (z : List Nat), p = as ++ m :: z → m + 1 ≤ rr 0 as as.length → lastR (rr 0 as as.length + 1 - m) z → ∀ H' q, Same H H' → SqT K H' q (vi (as ++ (m + 1) :: List.replicate z.length 0)) → Q (.ref q) H'
theorem ok_L_next (TX : Tx K mg) : FnOk P w K mg base CX0 1 TX.a_L_next TX.fd_L_next ["_law_plan"] (sp_L_next K) := by
  refine TX.f_L_next.ok sc_L_next (fun vs H Q E h => ?_) (fun cdv A outer s H vs Q E hr h => ?_)
  · obtain ⟨a, p, rfl, _⟩ := h; rfl
  · obtain ⟨a, p, rfl, hS, hl, hok, q1, q2⟩ := h
    refine ⟨_, (pss_cons (ps_for PassesOwn.never rfl (pi_range3 (by rfl) TX.b_range (pa_cons (pe_op op_sub (pe_callB (id := "len") (k_len (K := K) rfl) (by rfl) TX.b_len (by decide +kernel) (pa_cons (pv 0) pa_nil)) pe_int) (pa_cons (pe_un un_neg pe_int) (pa_cons (pe_un un_neg pe_int) pa_nil)))) (pg_name (i := 1) sc_L_next.nd rfl (.inl rfl))
        (pss_one (ps_if (pt_cmpR op_lt (pe_ix (k_ixT (K := K) rfl) (pv 0) (pv 1) (fun _ _ => rfl)) (pe_op op_sub (pv 1) (pe_callB (id := "sum") (k_sumT (K := K) rfl rfl) (by rfl) TX.b_sum (by decide +kernel) (pa_cons (pe_slice (k_slT (K := K) rfl) (pv 0) po_none (po_some (pv 1))) pa_nil))) (nomark _))
          (pss_one (ps_ret (pe_op (k_catT (K := K) rfl) (pe_op (k_catT (K := K) rfl) (pe_slice (k_slT (K := K) rfl) (pv 0) po_none (po_some (pv 1))) (pe_tup (pa_cons (pe_op op_add (pe_ix (k_ixT (K := K) rfl) (pv 0) (pv 1) (fun _ _ => rfl)) pe_int) pa_nil))) (pe_op (k_repZ (K := K) rfl) (pe_tup (pa_cons pe_int pa_nil)) (pe_op op_sub (pe_op op_sub (pe_callB (id := "len") (k_len (K := K) rfl) (by rfl) TX.b_len (by decide +kernel) (pa_cons (pv 0) pa_nil)) (pv 1)) pe_int)))))
          pss_nil)))
      (pss_one (ps_ret pe_non))), ?_⟩
    refine ⟨.ref a, rfl, a, _, rfl, .inr hS, _, _, rfl, rfl, _, rfl, _, rfl, _, _, _, _, rfl, RgC.neg (by rw [vi_len]; omega) (by rw [vi_len]; omega) (by decide) (by decide), ?_⟩
    rw [show (((vi p).length : Int) - 1 - -1).toNat = p.length by rw [vi_len]; omega]
    refine for_rangeC (fun i σ G => ∃ y1, σ = [some (.ref a), y1] ∧ Same H G ∧ lastR (rr 0 p (p.length - i)) (p.drop (p.length - i))) ⟨_, rfl, Same.refl _, by rw [Nat.sub_zero, List.drop_length]; trivial⟩ ?_ ?_
    rotate_left
    · rintro σ G ⟨y1, rfl, sG, hlast⟩
      rw [Nat.sub_self, List.drop_zero] at hlast
      exact q1 (by simpa [rr] using hlast) G sG
    rintro i σ G hi ⟨y1, rfl, sG, hlast⟩
    obtain ⟨k, hk⟩ : ∃ k, k = p.length - 1 - i := ⟨_, rfl⟩
    have ek : (((vi p).length : Nat) : Int) - 1 + (i : Int) * (-1) = (k : Int) := by rw [vi_len]; omega
    rw [ek]
    have hkl : k < p.length := by omega
    have ekl : p.length - i = k + 1 := by omega
    rw [ekl] at hlast
    have ekn : p.length - (i + 1) = k := by omega
    have hm := List.getElem?_eq_getElem hkl
    have hSG := Same.tup sG hS
    obtain ⟨a1, a2⟩ := okR_at hok hm
    have ed : p.drop k = p[k] :: p.drop (k + 1) := List.drop_eq_getElem_cons hkl
    have ep : p = p.take k ++ p[k] :: p.drop (k + 1) := by rw [← ed, List.take_append_drop]
    have hsum := rr_sum (p := p) (r := 0) (i := k) hok (by omega)
    obtain ⟨m, hmm⟩ : ∃ m, m = p[k] := ⟨_, rfl⟩
    rw [← hmm] at hm a1 a2 ed ep
    refine ⟨.ref a, rfl, _, rfl, a, _, _, _, rfl, rfl, hSG, at_vi hm, _, rfl, .ref a, rfl, ?_⟩
    dsimp only [tNoPart]
    refine ⟨_, rfl, _, rfl, sl_read hSG fun c1 G1 s1 h1 => ?_⟩
    rw [cutV_to (by omega), vi_ci] at h1
    have e1 : ((k : Nat) : Int) - (ci (p.take k)).sum = ((rr 0 p k : Nat) : Int) := by rw [sum_ci]; omega
    refine ⟨c1, ci (p.take k), rfl, h1, _, _, rfl, rfl, _, _, rfl, rfl, ?_⟩
    rw [e1]
    have hlk : (p.take k).length = k := by rw [List.length_take]; omega
    have erk : rr 0 p k = rr 0 (p.take k) (p.take k).length := by
      have h := rr_app (as := p.take k) (r := 0) (z := m :: p.drop (k + 1))
      rw [← ep] at h
      rw [← h, hlk]
    by_cases hlt : m < rr 0 p k
    rotate_left
    · refine ⟨false, blF (by omega), iteF ⟨_, rfl, sG.trans s1, ?_⟩⟩
      rw [ekn, ed]
      exact ⟨by omega, by rw [show rr 0 p k + 1 - m = rr 0 p (k + 1) by omega]; exact hlast⟩
    refine ⟨true, blT (by omega), iteT ?_⟩
    have hS1 := Same.tup s1 hSG
    refine ⟨.ref a, rfl, ?_⟩
    dsimp only [tNoPart]
    refine ⟨_, rfl, _, rfl, sl_read hS1 fun c2 G2 s2 h2 => ?_⟩
    rw [cutV_to (by omega)] at h2
    have hS2 := Same.tup s2 hS1
    refine ⟨.ref a, rfl, _, rfl, a, _, _, _, rfl, rfl, hS2, at_vi hm, _, _, rfl, rfl, sz60 (by simp), fun t nt => ?_⟩
    have zt := same_upd (o := .tup [V.int ((m : Int) + 1)]) nt
    refine cat_read (Same.tup zt h2) (.inl (.inl upd_same)) (by simp [vi]; omega) fun c3 G3 s3 h3 => ?_
    have s23 := zt.trans s3
    refine ⟨sz60 (by simp), fun t0 nt0 => ?_⟩
    have z0 := same_upd (o := .tup [V.int 0]) nt0
    have hS4 := Same.tup (s23.trans z0) hS2
    refine ⟨.ref a, rfl, a, _, rfl, .inr hS4, _, rfl, _, _, rfl, rfl, _, _, rfl, rfl, ?_⟩
    have ez : (((vi p).length : Nat) : Int) - ((k : Nat) : Int) - 1 = ((p.length - k - 1 : Nat) : Int) := by rw [vi_len]; omega
    dsimp only
    rw [ez]
    refine repZ_read (xs := [V.int 0]) (.inl (.inl upd_same)) (by simp) (by omega) (by simp) fun c5 G5 s5 h5 => ?_
    have e5 : (List.replicate (p.length - k - 1) [V.int 0]).flatten = vi (List.replicate (p.drop (k + 1)).length 0) := by
      rw [show (p.drop (k + 1)).length = p.length - k - 1 by rw [List.length_drop]; omega, vi_rep]
      generalize p.length - k - 1 = x
      induction x with
      | zero => rfl
      | succ x ih => rw [List.replicate_succ, List.flatten_cons, ih, List.replicate_succ]; rfl
    rw [e5] at h5
    refine cat_read (Same.tup (z0.trans s5) h3) h5 (by rw [List.length_append, vi_len, vi_len, hlk, List.length_replicate, List.length_drop, List.length_singleton]; omega) fun c6 G6 s6 h6 => ?_
    refine q2 (p.take k) m (p.drop (k + 1)) ep (by rw [← erk]; omega) (by rw [← erk, show rr 0 p k + 1 - m = rr 0 p (k + 1) by omega]; exact hlast) _ c6 (sG.trans (s1.trans (s2.trans (s23.trans (z0.trans (s5.trans s6)))))) ?_
    rw [vi_app]
    have e7 : vi ((m + 1) :: List.replicate (p.drop (k + 1)).length 0) = [V.int ((m : Int) + 1)] ++ vi (List.replicate (p.drop (k + 1)).length 0) := rfl
    rw [e7, ← List.append_assoc]
    exact h6
end
theorem okR_zeros : ∀ {k r : Nat}, okR r (List.replicate k 0)
  | 0, _ => trivial
  | k + 1, r => ⟨Nat.zero_le _, okR_zeros⟩
theorem okR_next : ∀ {as : List Nat} {m : Nat} {z : List Nat} {r : Nat}, okR r (as ++ m :: z) → m + 1 ≤ rr r as as.length → okR r (as ++ (m + 1) :: List.replicate z.length 0)
  | [], _, _, _, _, h2 => ⟨h2, okR_zeros⟩
  | a :: as, m, z, r, ⟨h1, h3⟩, h2 => ⟨h1, okR_next (as := as) (r := r + 1 - a) h3 h2⟩
theorem last_or : ∀ {p : List Nat} {r : Nat}, okR r p → lastR r p ∨ ∃ as m z, p = as ++ m :: z ∧ m + 1 ≤ rr r as as.length ∧ lastR (rr r as as.length + 1 - m) z
  | [], _, _ => .inl trivial
  | m :: p, r, ⟨h1, h2⟩ => by
    rcases last_or (p := p) (r := r + 1 - m) h2 with h | ⟨as, x, z, rfl, g1, g2⟩
    · by_cases e : m = r
      · exact .inl ⟨e, h⟩
      · exact .inr ⟨[], m, p, rfl, by show m + 1 ≤ r; omega, h⟩
    · exact .inr ⟨m :: as, x, z, rfl, g1, g2⟩
section
variable {P : Program} {w : World} {K : PySem.W.Frag} {mg : Str → Option Value} {base : Heap}
def sp_L_right (K : PySem.W.Frag) : Sp := fun vs H Q _ => ∃ (n ix : Nat), vs = [.int (n : Int), .int (ix : Int), .int ((rowG n n 0 : Nat) : Int)] ∧ n ≤ 60 ∧ ix < rowG n n 0 ∧ ∀ H', Same H H' → Q (.bl true) H'
theorem ok_L_right (TX : Tx K mg) : FnOk P w K mg base CX0 6 TX.a_L_right TX.fd_L_right ["_law_size", "_law_index", "_law_total"] (sp_L_right K) := by
  refine TX.f_L_right.ok sc_L_right (fun vs H Q E h => ?_) (fun cdv A outer s H vs Q E hr h => ?_)
  · obtain ⟨n, ix, rfl, _⟩ := h; rfl
  · obtain ⟨n, ix, rfl, hn, hix, q⟩ := h
    refine ⟨_, (pss_cons (ps_set (i := 3) sc_L_right.nd rfl (.inl rfl) (pe_call (ok_schedule_at TX) (hr.mono (by decide)) (by rfl) TX.g_schedule_at TX.f_schedule_at.kp TX.bd_schedule_at .nil pass0 (pa_cons (pv 0) (pa_cons (pv 1) pa_nil))))
      (pss_cons (ps_if (PW.pt (pw_or (pt_not (pt_val (pe_call (ok_L_valid TX) (hr.mono (by decide)) (by rfl) TX.g_L_valid TX.f_L_valid.kp TX.bd_L_valid .nil pass0 (pa_cons (pv 3) pa_nil)))) (pw_or (pt_cmpR op_ne (pe_callB (id := "len") (k_len (K := K) rfl) (by rfl) TX.b_len (by decide +kernel) (pa_cons (pv 3) pa_nil)) (pv 0) (nomark _)) (pw_or1 (pt_cmpR op_ne (pe_call (ok_index_of TX) (hr.mono (by decide)) (by rfl) TX.g_index_of TX.f_index_of.kp TX.bd_index_of .nil pass0 (pa_cons (pv 3) pa_nil)) (pv 1) (nomark _))))))
        (pss_one (ps_ret pe_bl))
        pss_nil)
      (pss_cons (ps_set (i := 4) sc_L_right.nd rfl (.inl rfl) (pe_call (ok_L_next TX) (hr.mono (by decide)) (by rfl) TX.g_L_next TX.f_L_next.kp TX.bd_L_next .nil pass0 (pa_cons (pv 3) pa_nil)))
      (pss_cons (ps_if (pt_cmpR op_isN (pv 4) pe_non (nomark _))
        (pss_one (ps_ret (pe_cmpR op_eq (pv 1) (pe_op op_sub (pv 2) pe_int) (nomark _))))
        pss_nil)
      (pss_one (ps_ret (pe_and (pe_cmpR op_eq (pe_call (ok_index_of TX) (hr.mono (by decide)) (by rfl) TX.g_index_of TX.f_index_of.kp TX.bd_index_of .nil pass0 (pa_cons (pv 4) pa_nil)) (pe_op op_add (pv 1) pe_int) (nomark _)) (pe_one (pe_cmpR (op_eqD hr.units) (pe_call (ok_schedule_at TX) (hr.mono (by decide)) (by rfl) TX.g_schedule_at TX.f_schedule_at.kp TX.bd_schedule_at .nil pass0 (pa_cons (pv 0) (pa_cons (pe_op op_add (pv 1) pe_int) pa_nil))) (pv 4) (nomark _)))))))))), ?_⟩
    obtain ⟨pl, g1, g2, g3, g4⟩ := atL_some (n := n) (k := n) (i := 0) (r := 0) (b := ix) (by omega) (Nat.le_refl _) hix
    refine ⟨_, rfl, _, rfl, n, ix, pl, rfl, hn, hix, g1, fun H1 pa s1 hp => ?_⟩
    subst g2
    refine ⟨.ref pa, rfl, pa, pl, rr 0 pl, rfl, hp, hn, sch_okR g3, true, rfl, iteF ?_⟩
    refine ⟨.ref pa, rfl, pa, _, rfl, .inr hp, _, rfl, rfl, false, by rw [vi_len]; simp, iteF ?_⟩
    refine ⟨.ref pa, rfl, pa, pl, rr 0 pl, rfl, hp, hn, sch_okR g3, fun H2 s2 => ⟨_, rfl, rfl, false, by rw [g4]; simp, iteF ?_⟩⟩
    have hp2 := Same.tup s2 hp
    have s12 := s1.trans s2
    refine ⟨.ref pa, rfl, pa, pl, rfl, hp2, hn, g3, fun hlast H3 s3 => ?_, fun as m z e hm hz H3 q3 s3 h3 => ?_⟩
    · have e1 := ixF_last (n := pl.length) (p := pl) (i := 0) (r := 0) (by omega) (Nat.le_refl _) hlast
      refine ⟨_, rfl, rfl, true, by simp, iteT ?_⟩
      refine ⟨_, rfl, _, rfl, _, _, rfl, rfl, ?_⟩
      have ev : V.int (ix : Int) = V.int (((rowG pl.length pl.length 0 : Nat) : Int) - 1) := by congr 1; omega
      refine ⟨rfl, ?_⟩
      have := q H3 (s12.trans s3)
      rw [← decide_eq_true ev] at this
      exact this
    · have hok2 := okR_next (as := as) (m := m) (z := z) (r := 0) (by rw [← e]; exact g3) hm
      have hlen2 : (as ++ (m + 1) :: List.replicate z.length 0).length = pl.length := by rw [e]; simp
      have hnx := ixF_next (n := pl.length) (as := as) (m := m) (z := z) (i := 0) (r := 0) (by rw [e]; simp; omega) (Nat.le_refl _) (by rw [← e]; exact g3) hm hz
      rw [← e, g4] at hnx
      have hat := atL_ixF (n := pl.length) (p := as ++ (m + 1) :: List.replicate z.length 0) (i := 0) (r := 0) (by omega) (Nat.le_refl _) hok2
      have hlt := ixF_lt (n := pl.length) (p := as ++ (m + 1) :: List.replicate z.length 0) (i := 0) (r := 0) (by omega) (Nat.le_refl _) hok2
      rw [hlen2, hnx] at hat hlt
      generalize as ++ (m + 1) :: List.replicate z.length 0 = nx at *
      refine ⟨_, rfl, rfl, false, by simp, iteF ?_⟩
      refine ⟨.ref q3, rfl, q3, nx, rr 0 nx, rfl, h3, by omega, sch_okR hok2, fun H4 s4 => ⟨_, rfl, _, _, rfl, rfl, ?_⟩⟩
      refine ⟨rfl, true, by rw [hlen2, hnx]; simp, iteT ?_⟩
      refine ⟨_, rfl, _, rfl, _, _, rfl, rfl, pl.length, ix + 1, nx, rfl, hn, hlt, hat, fun H5 q5 s5 h5 => ?_⟩
      have h35 := Same.tup (s4.trans s5) h3
      rw [vi_ci] at h5 h35
      exact ⟨_, rfl, eq_data (d := .tuple ((ci nx).map PyData.int)) (dp_tup h5) (dp_tup h35) (Sh.tup (k := 0) (Sh.ints _)) (by decide) (q _ (s12.trans (s3.trans (s4.trans s5))))⟩
end
theorem lastR_ones : ∀ {k : Nat}, lastR 1 (List.replicate k 1)
  | 0 => trivial
  | k + 1 => ⟨rfl, lastR_ones (k := k)⟩
theorem okR_last : ∀ {p : List Nat} {r : Nat}, lastR r p → okR r p
  | [], _, _ => trivial
  | _ :: p, _, ⟨h1, h2⟩ => ⟨Nat.le_of_eq h1, okR_last (p := p) h2⟩
theorem lastR_full (n : Nat) (h : n ≤ 60) : lastR 0 ((0 :: List.replicate 60 1).take n) ∧ ((0 :: List.replicate 60 1).take n).length = n := by
  refine ⟨?_, by rw [List.length_take]; simp; omega⟩
  cases n with
  | zero => trivial
  | succ n =>
    rw [List.take_succ_cons, List.take_replicate]
    exact ⟨rfl, lastR_ones⟩
theorem nthK {n : Nat} (x : List V) (h : x.length = n) (i : Nat) (hi : i < (if (if (x.length : Int) < 3 then (x.length : Int) else 3) > 1 then (if (x.length : Int) < 3 then (x.length : Int) else 3) else 1 : Int).toNat) : i ≤ 62 := by
  have : (if (if (x.length : Int) < 3 then (x.length : Int) else 3) > 1 then (if (x.length : Int) < 3 then (x.length : Int) else 3) else 1) ≤ 4 := by split <;> split <;> omega
  omega
theorem cat_at {n : Nat} (h : n ≤ 60) : (catN 60)[n]? = some (rowG n n 0) := by
  have hl := catN_len 60
  rw [← (catN_row n (by omega)).1, List.getD_eq_getElem?_getD, List.getElem?_eq_getElem (by omega)]; rfl
section
variable {P : Program} {w : World} {K : PySem.W.Frag} {mg : Str → Option Value} {base : Heap}
def sp_law (K : PySem.W.Frag) : Sp := fun vs H Q _ => ∃ (a : Addr) (ns : List Int), vs = [.ref a] ∧ SqL K H a (ns.map V.int) ∧ ns.length ≤ 63 ∧ ∀ H', Q (.bl true) H'
theorem ok_law (TX : Tx K mg) : FnOk P w K mg base CX0 7 TX.a_law TX.fd_law ["_law_script"] (sp_law K) := by
  refine TX.f_law.ok sc_law (fun vs H Q E h => ?_) (fun cdv A outer s H vs Q E hr h => ?_)
  · obtain ⟨a, ns, rfl, _⟩ := h; rfl
  · obtain ⟨a, ns, rfl, hS, hlen, q⟩ := h
    refine ⟨_, (pss_cons (ps_set (i := 1) sc_law.nd rfl (.inr rfl) (pe_call (ok_L_numbers TX) (hr.mono (by decide)) (by rfl) TX.g_L_numbers TX.f_L_numbers.kp TX.bd_L_numbers .nil pass0 (pa_cons pe_int pa_nil)))
      (pss_cons (ps_if (pt_not (pt_val (pe_callB (id := "all") (cr_all rfl) (by rfl) TX.b_all (by decide +kernel) (pa_cons (pe_lc (own := [("_law_size", 5)]) (by rfl) sc_law.nd (pi_range1 (by rfl) TX.b_range (pa_cons pe_int pa_nil)) (blkOk_by (own := [("_law_size", 5)]) (N := N_law) (sc := defScope s_law) (by decide +kernel)) (fun _ _ _ _ _ => (pg_name (i := 5) sc_law.nd rfl (Or.inl rfl))) (fun _ _ _ _ _ => pts_nil) (fun _ _ _ _ _ => (pe_cmpR op_eq (pe_call (ok_count_schedules TX) (hr.mono (by decide)) (by rfl) TX.g_count_schedules TX.f_count_schedules.kp TX.bd_count_schedules .nil pass0 (pa_cons (pv 5) pa_nil)) (pe_ix (k_ixL (K := K) rfl) (pv 1) (pv 5) (fun _ _ => rfl)) (nomark _)))) pa_nil))))
        (pss_one (ps_ret pe_bl))
        pss_nil)
      (pss_cons (ps_for PassesOwn.never rfl (pi_range1 (by rfl) TX.b_range (pa_cons (pe_callB (id := "max") (call_max2 rfl) (by rfl) TX.b_max (by decide +kernel) (pa_cons pe_int (pa_cons (pe_callB (id := "min") (call_min2 rfl) (by rfl) TX.b_min (by decide +kernel) (pa_cons pe_int (pa_cons (pe_callB (id := "len") (k_len (K := K) rfl) (by rfl) TX.b_len (by decide +kernel) (pa_cons (pv 0) pa_nil)) pa_nil))) pa_nil))) pa_nil)) (pg_name (i := 2) sc_law.nd rfl (.inl rfl))
        (pss_cons (ps_set (i := 3) sc_law.nd rfl (.inl rfl) (pe_call (ok_L_pot TX) (hr.mono (by decide)) (by rfl) TX.g_L_pot TX.f_L_pot.kp TX.bd_L_pot .nil pass0 (pa_cons (pv 0) (pa_cons (pv 2) pa_nil))))
        (pss_one (ps_for PassesOwn.never rfl (pi_range1 (by rfl) TX.b_range (pa_cons pe_int pa_nil)) (pg_name (i := 4) sc_law.nd rfl (.inl rfl))
          (pss_cons (ps_set (i := 5) sc_law.nd rfl (.inl rfl) (pe_call (ok_L_of TX) (hr.mono (by decide)) (by rfl) TX.g_L_of TX.f_L_of.kp TX.bd_L_of .nil pass0 (pa_cons (pv 3) (pa_cons (pe_lst (pa_cons pe_int (pa_cons pe_int (pa_cons (pe_call (ok_L_take TX) (hr.mono (by decide)) (by rfl) TX.g_L_take TX.f_L_take.kp TX.bd_L_take .nil pass0 (pa_cons (pv 3) (pa_cons pe_int pa_nil))) (pa_cons (pe_call (ok_L_take TX) (hr.mono (by decide)) (by rfl) TX.g_L_take TX.f_L_take.kp TX.bd_L_take .nil pass0 (pa_cons (pv 3) (pa_cons pe_int pa_nil))) pa_nil))))) pa_nil))))
          (pss_cons (ps_set (i := 6) sc_law.nd rfl (.inl rfl) (pe_ix (k_ixL (K := K) rfl) (pv 1) (pv 5) (fun _ _ => rfl)))
          (pss_cons (ps_set (i := 7) sc_law.nd rfl (.inl rfl) (pe_call (ok_L_of TX) (hr.mono (by decide)) (by rfl) TX.g_L_of TX.f_L_of.kp TX.bd_L_of .nil pass0 (pa_cons (pv 3) (pa_cons (pe_lst (pa_cons (pe_call (ok_L_take TX) (hr.mono (by decide)) (by rfl) TX.g_L_take TX.f_L_take.kp TX.bd_L_take .nil pass0 (pa_cons (pv 3) (pa_cons (pv 6) pa_nil))) (pa_cons (pe_call (ok_L_take TX) (hr.mono (by decide)) (by rfl) TX.g_L_take TX.f_L_take.kp TX.bd_L_take .nil pass0 (pa_cons (pv 3) (pa_cons (pv 6) pa_nil))) (pa_cons pe_int (pa_cons (pe_op op_sub (pv 6) pe_int) pa_nil))))) pa_nil))))
          (pss_cons (ps_if (pt_not (pt_val (pe_call (ok_L_right TX) (hr.mono (by decide)) (by rfl) TX.g_L_right TX.f_L_right.kp TX.bd_L_right .nil pass0 (pa_cons (pv 5) (pa_cons (pv 7) (pa_cons (pv 6) pa_nil))))))
            (pss_one (ps_ret pe_bl))
            pss_nil)
          (pss_cons (ps_set (i := 8) sc_law.nd rfl (.inl rfl) (pe_call (ok_L_drawn TX) (hr.mono (by decide)) (by rfl) TX.g_L_drawn TX.f_L_drawn.kp TX.bd_L_drawn .nil pass0 (pa_cons (pv 3) (pa_cons (pv 5) pa_nil))))
          (pss_cons (ps_if (pt_cmpR (op_neD hr.units) (pe_call (ok_schedule_at TX) (hr.mono (by decide)) (by rfl) TX.g_schedule_at TX.f_schedule_at.kp TX.bd_schedule_at .nil pass0 (pa_cons (pv 5) (pa_cons (pe_call (ok_index_of TX) (hr.mono (by decide)) (by rfl) TX.g_index_of TX.f_index_of.kp TX.bd_index_of .nil pass0 (pa_cons (pv 8) pa_nil)) pa_nil))) (pv 8) (nomark _))
            (pss_one (ps_ret pe_bl))
            pss_nil)
          (pss_one (ps_if (PW.pt (pw_or (pt_cmpR (op_neD hr.units) (pe_call (ok_schedule_at TX) (hr.mono (by decide)) (by rfl) TX.g_schedule_at TX.f_schedule_at.kp TX.bd_schedule_at .nil pass0 (pa_cons (pv 5) (pa_cons pe_int pa_nil))) (pe_op (k_repZ (K := K) rfl) (pe_tup (pa_cons pe_int pa_nil)) (pv 5)) (nomark _)) (pw_or1 (pt_cmpR (op_neD hr.units) (pe_call (ok_schedule_at TX) (hr.mono (by decide)) (by rfl) TX.g_schedule_at TX.f_schedule_at.kp TX.bd_schedule_at .nil pass0 (pa_cons (pv 5) (pa_cons (pe_op op_sub (pv 6) pe_int) pa_nil))) (pe_slice (k_slT (K := K) rfl) (pe_op (k_catT (K := K) rfl) (pe_tup (pa_cons pe_int pa_nil)) (pe_op (k_repZ (K := K) rfl) (pe_tup (pa_cons pe_int pa_nil)) pe_int)) po_none (po_some (pv 5))) (nomark _)))))
            (pss_one (ps_ret pe_bl))
            pss_nil))))))))))))
      (pss_one (ps_ret pe_bl))))), ?_⟩
    refine ⟨rfl, fun H1 tp s1 htp => ?_⟩
    have hb1 : ∀ b, b ∈ List.replicate 61 true → b = true := fun b hb => List.eq_of_mem_replicate hb
    refine ⟨_, rfl, by decide, by decide, fun D nD => lc_bools (K := K) walk_range (List.replicate 61 true) (by simp) (by decide) nD (fun _ _ => trivial) ?_ ?_ (fun x σ' H' Q Q' h => h _ _) (fun σ' H' Q Q' h => h _ _)⟩
    · rintro j x Ha Hb hj sa hx b hb R hR
      obtain ⟨rfl, rfl⟩ := hx
      have hj61 : j < 61 := hj
      have eb : b = true := hb1 b (List.mem_of_getElem? hb)
      subst eb
      have ej : (0 : Int) + (j : Nat) = (j : Int) := by omega
      dsimp only
      rw [ej]
      refine ⟨rfl, rfl, _, rfl, j, rfl, by omega, fun H' s' => ⟨.ref tp, rfl, _, rfl, tp, _, _, _, rfl, rfl, .inl (.inl (s' _ _ (sa _ _ htp))), at_vi (cat_at (by omega)), rfl, ?_⟩⟩
      have := hR H' s'
      rw [show decide (V.int ((rowG j j 0 : Nat) : Int) = V.int ((rowG j j 0 : Nat) : Int)) = true by simp]
      exact this
    intro H2 s2 hD
    refine ⟨D, _, rfl, .inl (.inl hD), true, by decide, iteF ?_⟩
    have hS2 := Same.seq (s1.trans s2) hS
    have htp2 := s2 _ _ htp
    clear hD nD
    refine ⟨.ref a, rfl, a, _, rfl, .inl hS2, _, _, rfl, _, _, rfl, _, rfl, ?_, ?_, ?_⟩
    · split <;> split <;> omega
    · split <;> split <;> omega
    refine for_range (lo := 0) (fun i σ G => ∃ y2 y3 y4 y5 y6 y7 y8, σ = [some (.ref a), some (.ref tp), y2, y3, y4, y5, y6, y7, y8] ∧ Same H2 G) ⟨_, _, _, _, _, _, _, rfl, Same.refl _⟩ ?_ (fun σ H' _ => q H')
    rintro i σ G1 hi ⟨y2, y3, y4, y5, y6, y7, y8, rfl, sG1⟩
    have hi2 : i ≤ 62 := nthK _ rfl i hi
    have ei : (0 : Int) + (i : Nat) = (i : Int) := by omega
    rw [ei]
    refine ⟨.ref a, rfl, _, rfl, a, ns, i, rfl, Same.seq sG1 hS2, hi2, fun G2 p sp np pp => ?_⟩
    refine ⟨_, rfl, by decide, by decide, for_range (lo := 0) (n := 8) (fun j σ G' => ∃ y4 y5 y6 y7 y8, σ = [some (.ref a), some (.ref tp), some (.int (i : Int)), some (.ref p), y4, y5, y6, y7, y8] ∧ But p G2 G' ∧ Pot G' p (300 * (j : Int))) ⟨_, _, _, _, _, rfl, .refl, pp.mono (by omega)⟩ ?_ ?_⟩
    rotate_left
    · rintro σ G' ⟨y4, y5, y6, y7, y8, rfl, bG, pG⟩
      exact ⟨_, _, _, _, _, _, _, rfl, fun b' o' e' => bG _ _ (fun z => by rw [z] at e'; rw [sG1 _ _ e'] at np; cases np) (sp _ _ (sG1 _ _ e'))⟩
    rintro j σ G' hj ⟨y4, y5, y6, y7, y8, rfl, bG, pG⟩
    have hj8 : j < 8 := hj
    have htpp : tp ≠ p := fun z => by have := sG1 _ _ htp2; rw [z, np] at this; cases this
    have htpG : G' tp = some (.lst (vi (catN 60))) := bG _ _ htpp (sp _ _ (sG1 _ _ htp2))
    refine ⟨.ref p, rfl, .ref p, rfl, p, 61, _, rfl, pG, by omega, by decide, by decide, fun G3 r1 b3 p3 r10 r11 => ⟨.ref p, rfl, p, 12, _, rfl, p3, by omega, by decide, by decide, fun G4 r2 b4 p4 r20 r21 => ⟨sz60 (by simp), fun l1 nl1 => ?_⟩⟩⟩
    have z1 := same_upd (o := .lst [V.int 60, V.int 59, V.int r1, V.int r2]) nl1
    refine ⟨p, l1, _, _, rfl, p4.same z1, by omega, upd_same, p4.ne nl1, by simp, by simp, fun G5 v1 b5 p5 hv1 => ?_⟩
    obtain ⟨n, rfl, hn⟩ : ∃ n : Nat, v1 = .int (n : Int) ∧ n ≤ 60 := by
      simp only [List.mem_cons, List.not_mem_nil, or_false] at hv1
      rcases hv1 with rfl | rfl | rfl | rfl
      · exact ⟨60, rfl, by decide⟩
      · exact ⟨59, rfl, by decide⟩
      · exact ⟨r1.toNat, by congr 1; omega, by omega⟩
      · exact ⟨r2.toNat, by congr 1; omega, by omega⟩
    have b15 : But p G' G5 := b3.trans (b4.trans ((But.of z1).trans b5))
    have htp5 := b15 _ _ htpp htpG
    obtain ⟨c1, c2, c3⟩ := catN_row n (by omega)
    clear b3 b4 b5 z1 p3 p4 nl1 hv1 c1
    obtain ⟨tot, etot⟩ : ∃ tot, tot = rowG n n 0 := ⟨_, rfl⟩
    refine ⟨.ref tp, rfl, _, rfl, tp, _, _, _, rfl, rfl, .inl (.inl htp5), at_vi (cat_at hn), ?_⟩
    have c4 : (1 : Int) ≤ ((rowG n n 0 : Nat) : Int) := by omega
    have c5 : ((rowG n n 0 : Nat) : Int) ≤ 2 ^ 120 := by omega
    refine ⟨.ref p, rfl, .ref p, rfl, _, rfl, p, _, _, rfl, p5, by omega, c4, c5, fun G6 r3 b6 p6 r30 r31 => ⟨.ref p, rfl, _, rfl, p, _, _, rfl, p6, by omega, c4, c5, fun G7 r4 b7 p7 r40 r41 => ⟨_, rfl, _, _, rfl, rfl, sz60 (by simp), fun l2 nl2 => ?_⟩⟩⟩
    have z2 := same_upd (o := .lst [V.int r3, V.int r4, V.int 0, V.int (((rowG n n 0 : Nat) : Int) - 1)]) nl2
    refine ⟨p, l2, _, _, rfl, p7.same z2, by omega, upd_same, p7.ne nl2, by simp, by simp, fun G8 v2 b8 p8 hv2 => ?_⟩
    obtain ⟨ix, rfl, hix⟩ : ∃ ix : Nat, v2 = .int (ix : Int) ∧ ix < rowG n n 0 := by
      simp only [List.mem_cons, List.not_mem_nil, or_false] at hv2
      rcases hv2 with rfl | rfl | rfl | rfl
      · exact ⟨r3.toNat, by congr 1; omega, by omega⟩
      · exact ⟨r4.toNat, by congr 1; omega, by omega⟩
      · exact ⟨0, rfl, by omega⟩
      · exact ⟨rowG n n 0 - 1, by congr 1; omega, by omega⟩
    have b18 : But p G' G8 := b15.trans (b6.trans (b7.trans ((But.of z2).trans b8)))
    clear b6 b7 b8 z2 p5 p6 p7 nl2 hv2 b15 htp5
    refine ⟨_, rfl, _, rfl, _, rfl, n, ix, rfl, hn, hix, fun G9 s9 => ⟨true, rfl, iteF ?_⟩⟩
    refine ⟨.ref p, rfl, _, rfl, p, n, _, rfl, p8.same s9, by omega, hn, fun G10 q10 t b10 p10 hsz hS10 => ?_⟩
    have hl10 : t.sch.length = n := by rw [T.sch_len, hsz]
    have hok := okR_sch t
    have hlt := ixF_lt (n := n) (p := t.sch) (i := 0) (r := 0) (by omega) (Nat.le_refl _) hok
    have hat := atL_ixF (n := n) (p := t.sch) (i := 0) (r := 0) (by omega) (Nat.le_refl _) hok
    rw [hl10] at hlt hat
    have b110 : But p G' G10 := b18.trans ((But.of s9).trans b10)
    generalize t.sch = sc at *
    refine ⟨_, rfl, .ref q10, rfl, q10, sc, rr 0 sc, rfl, hS10, by omega, sch_okR hok, fun G11 s11 => ⟨n, ixF n sc 0 0 0, sc, by rw [hl10]; rfl, hn, hlt, hat, fun G12 q12 s12 h12 => ?_⟩⟩
    have hS12 := Same.tup (s11.trans s12) hS10
    rw [vi_ci] at h12 hS12
    refine ⟨.ref q10, rfl, ne_data (d := .tuple ((ci sc).map PyData.int)) (dp_tup h12) (dp_tup hS12) (Sh.tup (k := 0) (Sh.ints _)) (by decide) ⟨false, rfl, iteF ?_⟩⟩
    have hz0 := ixF_zeros (n := n) (k := n) (i := 0) (r := 0) (by omega) (Nat.le_refl _)
    have hzat := atL_ixF (n := n) (p := List.replicate n 0) (i := 0) (r := 0) (by simp) (Nat.le_refl _) okR_zeros
    rw [List.length_replicate, hz0] at hzat
    refine ⟨_, rfl, n, 0, List.replicate n 0, rfl, hn, by omega, hzat, fun G13 q13 s13 h13 => ?_⟩
    refine ⟨sz60 (by simp), fun t0 nt0 => ⟨_, rfl, repZ_read (xs := [V.int 0]) (.inl (.inl upd_same)) (by simp) (by omega) (by simp) fun c6 G14 s14 h14 => ?_⟩⟩
    have z3 := same_upd (o := .tup [V.int 0]) nt0
    have e5 : ∀ (x v : Nat), (List.replicate x [V.int (v : Int)]).flatten = (ci (List.replicate x v)).map V.int := fun x v => by
      rw [← vi_ci, vi_rep]
      induction x with
      | zero => rfl
      | succ x ih => rw [List.replicate_succ, List.flatten_cons, ih, List.replicate_succ]; rfl
    have e50 := e5 n 0
    rw [show ((0 : Nat) : Int) = 0 from rfl] at e50
    rw [e50] at h14
    have h13' := Same.tup (z3.trans s14) h13
    rw [vi_ci] at h13'
    refine ne_data (d := .tuple ((ci (List.replicate n 0)).map PyData.int)) (dp_tup h13') (dp_tup h14) (Sh.tup (k := 0) (Sh.ints _)) (by decide) ⟨false, rfl, iteF ?_⟩
    obtain ⟨f1, f2⟩ := lastR_full n hn
    have g1 := ixF_last (n := n) (p := (0 :: List.replicate 60 1).take n) (i := 0) (r := 0) (by omega) (Nat.le_refl _) f1
    have g2 := atL_ixF (n := n) (p := (0 :: List.replicate 60 1).take n) (i := 0) (r := 0) (by omega) (Nat.le_refl _) (okR_last f1)
    rw [f2] at g1 g2
    rw [show ixF n ((0 :: List.replicate 60 1).take n) 0 0 0 = rowG n n 0 - 1 by omega] at g2
    have etm : ((rowG n n 0 : Nat) : Int) - 1 = ((rowG n n 0 - 1 : Nat) : Int) := by omega
    refine ⟨_, rfl, _, rfl, _, _, rfl, rfl, n, rowG n n 0 - 1, (0 :: List.replicate 60 1).take n, ?_, hn, by omega, g2, fun G15 q15 s15 h15 => ?_⟩
    · show [V.int (n : Int), V.int (((rowG n n 0 : Nat) : Int) - 1)] = _
      rw [etm]
    refine ⟨sz60 (by simp), fun ta na => ⟨sz60 (by simp), fun tb nb => ?_⟩⟩
    dsimp only [tC]
    show rRepZ K (V.ref tb) (V.int ((60 : Nat) : Int)) _ _
    refine repZ_read (k := 60) (xs := [V.int 1]) (.inl (.inl upd_same)) (by simp) (by omega) (by simp) fun c7 G16 s16 h16 => ?_
    have z4 := same_upd (o := .tup [V.int 0]) na
    have f4 := upd_same (H := G15) (a := ta) (o := .tup [V.int 0])
    have z5 := same_upd (o := .tup [V.int 1]) nb
    have e51 := e5 60 1
    rw [show ((1 : Nat) : Int) = 1 from rfl] at e51
    rw [e51, ← vi_ci] at h16
    refine cat_read (.inl (.inl ((z5.trans s16) _ _ f4))) h16 (by rw [vi_len]; simp) fun c8 G17 s17 h17 => ?_
    have h17' : SqT K G17 c8 (vi (0 :: List.replicate 60 1)) := h17
    dsimp only [tNoPart]
    refine ⟨_, rfl, _, rfl, sl_read h17' fun c9 G18 s18 h18 => ?_⟩
    rw [cutV_to (by simp; omega), vi_ci] at h18
    have sF := z4.trans (z5.trans (s16.trans (s17.trans s18)))
    have h15' := Same.tup sF h15
    rw [vi_ci] at h15'
    refine ne_data (d := .tuple ((ci ((0 :: List.replicate 60 1).take n)).map PyData.int)) (dp_tup h15') (dp_tup h18) (Sh.tup (k := 0) (Sh.ints _)) (by decide) ⟨false, rfl, iteF ?_⟩
    have sAll := s11.trans (s12.trans (s13.trans (z3.trans (s14.trans (s15.trans sF)))))
    exact ⟨_, _, _, _, _, rfl, bG.trans (b110.trans (But.of sAll)), (p10.same sAll).mono (by omega)⟩
end
theorem all_mk {l : PySem.W.OpenLaw} {w : World} {K : PySem.W.Frag} {h : Heap} {mg : Str → Option Value} {fa : Addr} (X : K.In h) (G : h.Ns mainGlobals mg) (hfa : mg "law" = some (.ref fa))
    {f_is_int : Addr} {od_is_int an_is_int : Option Addr} {sl_is_int : Array (Option Value)} {oc_is_int kV_is_int dc_is_int pm_is_int cd_is_int ct_is_int : Value}
    (a_is_int : PySem.W.nsIn K mainGlobals "is_int" = some (some (.ref f_is_int))) (l_is_int : K.lookup f_is_int = some ⟨oc_is_int, od_is_int, .func (PySem.W.fnOf "is_int" "is_int" (defArgs s_is_int) (defBody s_is_int) (defScope s_is_int) .none kV_is_int dc_is_int pm_is_int an_is_int cd_is_int ct_is_int), sl_is_int⟩) (c_is_int : PySem.W.codeIn K cd_is_int "is_int" = true) (k_is_int : PySem.W.keepIn K (.ref f_is_int) = true)
    {f_is_count : Addr} {od_is_count an_is_count : Option Addr} {sl_is_count : Array (Option Value)} {oc_is_count kV_is_count dc_is_count pm_is_count cd_is_count ct_is_count : Value}
    (a_is_count : PySem.W.nsIn K mainGlobals "is_count" = some (some (.ref f_is_count))) (l_is_count : K.lookup f_is_count = some ⟨oc_is_count, od_is_count, .func (PySem.W.fnOf "is_count" "is_count" (defArgs s_is_count) (defBody s_is_count) (defScope s_is_count) .none kV_is_count dc_is_count pm_is_count an_is_count cd_is_count ct_is_count), sl_is_count⟩) (c_is_count : PySem.W.codeIn K cd_is_count "is_count" = true) (k_is_count : PySem.W.keepIn K (.ref f_is_count) = true)
    {f_is_count_up_to : Addr} {od_is_count_up_to an_is_count_up_to : Option Addr} {sl_is_count_up_to : Array (Option Value)} {oc_is_count_up_to kV_is_count_up_to dc_is_count_up_to pm_is_count_up_to cd_is_count_up_to ct_is_count_up_to : Value}
    (a_is_count_up_to : PySem.W.nsIn K mainGlobals "is_count_up_to" = some (some (.ref f_is_count_up_to))) (l_is_count_up_to : K.lookup f_is_count_up_to = some ⟨oc_is_count_up_to, od_is_count_up_to, .func (PySem.W.fnOf "is_count_up_to" "is_count_up_to" (defArgs s_is_count_up_to) (defBody s_is_count_up_to) (defScope s_is_count_up_to) .none kV_is_count_up_to dc_is_count_up_to pm_is_count_up_to an_is_count_up_to cd_is_count_up_to ct_is_count_up_to), sl_is_count_up_to⟩) (c_is_count_up_to : PySem.W.codeIn K cd_is_count_up_to "is_count_up_to" = true) (k_is_count_up_to : PySem.W.keepIn K (.ref f_is_count_up_to) = true)
    {f_is_schedule : Addr} {od_is_schedule an_is_schedule : Option Addr} {sl_is_schedule : Array (Option Value)} {oc_is_schedule kV_is_schedule dc_is_schedule pm_is_schedule cd_is_schedule ct_is_schedule : Value}
    (a_is_schedule : PySem.W.nsIn K mainGlobals "is_schedule" = some (some (.ref f_is_schedule))) (l_is_schedule : K.lookup f_is_schedule = some ⟨oc_is_schedule, od_is_schedule, .func (PySem.W.fnOf "is_schedule" "is_schedule" (defArgs s_is_schedule) (defBody s_is_schedule) (defScope s_is_schedule) .none kV_is_schedule dc_is_schedule pm_is_schedule an_is_schedule cd_is_schedule ct_is_schedule), sl_is_schedule⟩) (c_is_schedule : PySem.W.codeIn K cd_is_schedule "is_schedule" = true) (k_is_schedule : PySem.W.keepIn K (.ref f_is_schedule) = true)
    {f_count_schedules : Addr} {od_count_schedules an_count_schedules : Option Addr} {sl_count_schedules : Array (Option Value)} {oc_count_schedules kV_count_schedules dc_count_schedules pm_count_schedules cd_count_schedules ct_count_schedules : Value}
    (a_count_schedules : PySem.W.nsIn K mainGlobals "count_schedules" = some (some (.ref f_count_schedules))) (l_count_schedules : K.lookup f_count_schedules = some ⟨oc_count_schedules, od_count_schedules, .func (PySem.W.fnOf "count_schedules" "count_schedules" (defArgs s_count_schedules) (defBody s_count_schedules) (defScope s_count_schedules) .none kV_count_schedules dc_count_schedules pm_count_schedules an_count_schedules cd_count_schedules ct_count_schedules), sl_count_schedules⟩) (c_count_schedules : PySem.W.codeIn K cd_count_schedules "count_schedules" = true) (k_count_schedules : PySem.W.keepIn K (.ref f_count_schedules) = true)
    {f_check_flushes : Addr} {od_check_flushes an_check_flushes : Option Addr} {sl_check_flushes : Array (Option Value)} {oc_check_flushes kV_check_flushes dc_check_flushes pm_check_flushes cd_check_flushes ct_check_flushes : Value}
    (a_check_flushes : PySem.W.nsIn K mainGlobals "check_flushes" = some (some (.ref f_check_flushes))) (l_check_flushes : K.lookup f_check_flushes = some ⟨oc_check_flushes, od_check_flushes, .func (PySem.W.fnOf "check_flushes" "check_flushes" (defArgs s_check_flushes) (defBody s_check_flushes) (defScope s_check_flushes) .none kV_check_flushes dc_check_flushes pm_check_flushes an_check_flushes cd_check_flushes ct_check_flushes), sl_check_flushes⟩) (c_check_flushes : PySem.W.codeIn K cd_check_flushes "check_flushes" = true) (k_check_flushes : PySem.W.keepIn K (.ref f_check_flushes) = true)
    {f_continuations : Addr} {od_continuations an_continuations : Option Addr} {sl_continuations : Array (Option Value)} {oc_continuations kV_continuations dc_continuations pm_continuations cd_continuations ct_continuations : Value}
    (a_continuations : PySem.W.nsIn K mainGlobals "continuations" = some (some (.ref f_continuations))) (l_continuations : K.lookup f_continuations = some ⟨oc_continuations, od_continuations, .func (PySem.W.fnOf "continuations" "continuations" (defArgs s_continuations) (defBody s_continuations) (defScope s_continuations) .none kV_continuations dc_continuations pm_continuations an_continuations cd_continuations ct_continuations), sl_continuations⟩) (c_continuations : PySem.W.codeIn K cd_continuations "continuations" = true) (k_continuations : PySem.W.keepIn K (.ref f_continuations) = true)
    {f_index_of : Addr} {od_index_of an_index_of : Option Addr} {sl_index_of : Array (Option Value)} {oc_index_of kV_index_of dc_index_of pm_index_of cd_index_of ct_index_of : Value}
    (a_index_of : PySem.W.nsIn K mainGlobals "index_of" = some (some (.ref f_index_of))) (l_index_of : K.lookup f_index_of = some ⟨oc_index_of, od_index_of, .func (PySem.W.fnOf "index_of" "index_of" (defArgs s_index_of) (defBody s_index_of) (defScope s_index_of) .none kV_index_of dc_index_of pm_index_of an_index_of cd_index_of ct_index_of), sl_index_of⟩) (c_index_of : PySem.W.codeIn K cd_index_of "index_of" = true) (k_index_of : PySem.W.keepIn K (.ref f_index_of) = true)
    {f_schedule_at : Addr} {od_schedule_at an_schedule_at : Option Addr} {sl_schedule_at : Array (Option Value)} {oc_schedule_at kV_schedule_at dc_schedule_at pm_schedule_at cd_schedule_at ct_schedule_at : Value}
    (a_schedule_at : PySem.W.nsIn K mainGlobals "schedule_at" = some (some (.ref f_schedule_at))) (l_schedule_at : K.lookup f_schedule_at = some ⟨oc_schedule_at, od_schedule_at, .func (PySem.W.fnOf "schedule_at" "schedule_at" (defArgs s_schedule_at) (defBody s_schedule_at) (defScope s_schedule_at) .none kV_schedule_at dc_schedule_at pm_schedule_at an_schedule_at cd_schedule_at ct_schedule_at), sl_schedule_at⟩) (c_schedule_at : PySem.W.codeIn K cd_schedule_at "schedule_at" = true) (k_schedule_at : PySem.W.keepIn K (.ref f_schedule_at) = true)
    {f_L_pot : Addr} {od_L_pot an_L_pot : Option Addr} {sl_L_pot : Array (Option Value)} {oc_L_pot kV_L_pot dc_L_pot pm_L_pot cd_L_pot ct_L_pot : Value}
    (a_L_pot : PySem.W.nsIn K mainGlobals "_law_sched_pot" = some (some (.ref f_L_pot))) (l_L_pot : K.lookup f_L_pot = some ⟨oc_L_pot, od_L_pot, .func (PySem.W.fnOf "_law_sched_pot" "_law_sched_pot" (defArgs s_L_pot) (defBody s_L_pot) (defScope s_L_pot) .none kV_L_pot dc_L_pot pm_L_pot an_L_pot cd_L_pot ct_L_pot), sl_L_pot⟩) (c_L_pot : PySem.W.codeIn K cd_L_pot "_law_sched_pot" = true) (k_L_pot : PySem.W.keepIn K (.ref f_L_pot) = true)
    {f_L_take : Addr} {od_L_take an_L_take : Option Addr} {sl_L_take : Array (Option Value)} {oc_L_take kV_L_take dc_L_take pm_L_take cd_L_take ct_L_take : Value}
    (a_L_take : PySem.W.nsIn K mainGlobals "_law_sched_take" = some (some (.ref f_L_take))) (l_L_take : K.lookup f_L_take = some ⟨oc_L_take, od_L_take, .func (PySem.W.fnOf "_law_sched_take" "_law_sched_take" (defArgs s_L_take) (defBody s_L_take) (defScope s_L_take) .none kV_L_take dc_L_take pm_L_take an_L_take cd_L_take ct_L_take), sl_L_take⟩) (c_L_take : PySem.W.codeIn K cd_L_take "_law_sched_take" = true) (k_L_take : PySem.W.keepIn K (.ref f_L_take) = true)
    {f_L_of : Addr} {od_L_of an_L_of : Option Addr} {sl_L_of : Array (Option Value)} {oc_L_of kV_L_of dc_L_of pm_L_of cd_L_of ct_L_of : Value}
    (a_L_of : PySem.W.nsIn K mainGlobals "_law_sched_of" = some (some (.ref f_L_of))) (l_L_of : K.lookup f_L_of = some ⟨oc_L_of, od_L_of, .func (PySem.W.fnOf "_law_sched_of" "_law_sched_of" (defArgs s_L_of) (defBody s_L_of) (defScope s_L_of) .none kV_L_of dc_L_of pm_L_of an_L_of cd_L_of ct_L_of), sl_L_of⟩) (c_L_of : PySem.W.codeIn K cd_L_of "_law_sched_of" = true) (k_L_of : PySem.W.keepIn K (.ref f_L_of) = true)
    {f_L_drawn : Addr} {od_L_drawn an_L_drawn : Option Addr} {sl_L_drawn : Array (Option Value)} {oc_L_drawn kV_L_drawn dc_L_drawn pm_L_drawn cd_L_drawn ct_L_drawn : Value}
    (a_L_drawn : PySem.W.nsIn K mainGlobals "_law_sched_drawn" = some (some (.ref f_L_drawn))) (l_L_drawn : K.lookup f_L_drawn = some ⟨oc_L_drawn, od_L_drawn, .func (PySem.W.fnOf "_law_sched_drawn" "_law_sched_drawn" (defArgs s_L_drawn) (defBody s_L_drawn) (defScope s_L_drawn) .none kV_L_drawn dc_L_drawn pm_L_drawn an_L_drawn cd_L_drawn ct_L_drawn), sl_L_drawn⟩) (c_L_drawn : PySem.W.codeIn K cd_L_drawn "_law_sched_drawn" = true) (k_L_drawn : PySem.W.keepIn K (.ref f_L_drawn) = true)
    {f_L_is_count : Addr} {od_L_is_count an_L_is_count : Option Addr} {sl_L_is_count : Array (Option Value)} {oc_L_is_count kV_L_is_count dc_L_is_count pm_L_is_count cd_L_is_count ct_L_is_count : Value}
    (a_L_is_count : PySem.W.nsIn K mainGlobals "_law_sched_is_count" = some (some (.ref f_L_is_count))) (l_L_is_count : K.lookup f_L_is_count = some ⟨oc_L_is_count, od_L_is_count, .func (PySem.W.fnOf "_law_sched_is_count" "_law_sched_is_count" (defArgs s_L_is_count) (defBody s_L_is_count) (defScope s_L_is_count) .none kV_L_is_count dc_L_is_count pm_L_is_count an_L_is_count cd_L_is_count ct_L_is_count), sl_L_is_count⟩) (c_L_is_count : PySem.W.codeIn K cd_L_is_count "_law_sched_is_count" = true) (k_L_is_count : PySem.W.keepIn K (.ref f_L_is_count) = true)
    {f_L_valid : Addr} {od_L_valid an_L_valid : Option Addr} {sl_L_valid : Array (Option Value)} {oc_L_valid kV_L_valid dc_L_valid pm_L_valid cd_L_valid ct_L_valid : Value}
    (a_L_valid : PySem.W.nsIn K mainGlobals "_law_sched_valid" = some (some (.ref f_L_valid))) (l_L_valid : K.lookup f_L_valid = some ⟨oc_L_valid, od_L_valid, .func (PySem.W.fnOf "_law_sched_valid" "_law_sched_valid" (defArgs s_L_valid) (defBody s_L_valid) (defScope s_L_valid) .none kV_L_valid dc_L_valid pm_L_valid an_L_valid cd_L_valid ct_L_valid), sl_L_valid⟩) (c_L_valid : PySem.W.codeIn K cd_L_valid "_law_sched_valid" = true) (k_L_valid : PySem.W.keepIn K (.ref f_L_valid) = true)
    {f_L_numbers : Addr} {od_L_numbers an_L_numbers : Option Addr} {sl_L_numbers : Array (Option Value)} {oc_L_numbers kV_L_numbers dc_L_numbers pm_L_numbers cd_L_numbers ct_L_numbers : Value}
    (a_L_numbers : PySem.W.nsIn K mainGlobals "_law_sched_numbers" = some (some (.ref f_L_numbers))) (l_L_numbers : K.lookup f_L_numbers = some ⟨oc_L_numbers, od_L_numbers, .func (PySem.W.fnOf "_law_sched_numbers" "_law_sched_numbers" (defArgs s_L_numbers) (defBody s_L_numbers) (defScope s_L_numbers) .none kV_L_numbers dc_L_numbers pm_L_numbers an_L_numbers cd_L_numbers ct_L_numbers), sl_L_numbers⟩) (c_L_numbers : PySem.W.codeIn K cd_L_numbers "_law_sched_numbers" = true) (k_L_numbers : PySem.W.keepIn K (.ref f_L_numbers) = true)
    {f_L_next : Addr} {od_L_next an_L_next : Option Addr} {sl_L_next : Array (Option Value)} {oc_L_next kV_L_next dc_L_next pm_L_next cd_L_next ct_L_next : Value}
    (a_L_next : PySem.W.nsIn K mainGlobals "_law_sched_next" = some (some (.ref f_L_next))) (l_L_next : K.lookup f_L_next = some ⟨oc_L_next, od_L_next, .func (PySem.W.fnOf "_law_sched_next" "_law_sched_next" (defArgs s_L_next) (defBody s_L_next) (defScope s_L_next) .none kV_L_next dc_L_next pm_L_next an_L_next cd_L_next ct_L_next), sl_L_next⟩) (c_L_next : PySem.W.codeIn K cd_L_next "_law_sched_next" = true) (k_L_next : PySem.W.keepIn K (.ref f_L_next) = true)
    {f_L_right : Addr} {od_L_right an_L_right : Option Addr} {sl_L_right : Array (Option Value)} {oc_L_right kV_L_right dc_L_right pm_L_right cd_L_right ct_L_right : Value}
    (a_L_right : PySem.W.nsIn K mainGlobals "_law_sched_right" = some (some (.ref f_L_right))) (l_L_right : K.lookup f_L_right = some ⟨oc_L_right, od_L_right, .func (PySem.W.fnOf "_law_sched_right" "_law_sched_right" (defArgs s_L_right) (defBody s_L_right) (defScope s_L_right) .none kV_L_right dc_L_right pm_L_right an_L_right cd_L_right ct_L_right), sl_L_right⟩) (c_L_right : PySem.W.codeIn K cd_L_right "_law_sched_right" = true) (k_L_right : PySem.W.keepIn K (.ref f_L_right) = true)
    {f_law : Addr} {od_law an_law : Option Addr} {sl_law : Array (Option Value)} {oc_law kV_law dc_law pm_law cd_law ct_law : Value}
    (a_law : PySem.W.nsIn K mainGlobals "law" = some (some (.ref f_law))) (l_law : K.lookup f_law = some ⟨oc_law, od_law, .func (PySem.W.fnOf "law" "law" (defArgs s_law) (defBody s_law) (defScope s_law) .none kV_law dc_law pm_law an_law cd_law ct_law), sl_law⟩) (c_law : PySem.W.codeIn K cd_law "law" = true) (k_law : PySem.W.keepIn K (.ref f_law) = true)
    (z_isinstance : PySem.W.nsIn K mainGlobals "isinstance" = some none)
    (z_int : PySem.W.nsIn K mainGlobals "int" = some none)
    (z_bool : PySem.W.nsIn K mainGlobals "bool" = some none)
    (z_tuple : PySem.W.nsIn K mainGlobals "tuple" = some none)
    (z_len : PySem.W.nsIn K mainGlobals "len" = some none)
    (z_enumerate : PySem.W.nsIn K mainGlobals "enumerate" = some none)
    (z_sum : PySem.W.nsIn K mainGlobals "sum" = some none)
    (z_range : PySem.W.nsIn K mainGlobals "range" = some none)
    (z_abs : PySem.W.nsIn K mainGlobals "abs" = some none)
    (z_min : PySem.W.nsIn K mainGlobals "min" = some none)
    (z_max : PySem.W.nsIn K mainGlobals "max" = some none)
    (z_all : PySem.W.nsIn K mainGlobals "all" = some none)
    {t_MOST_FLUSHES : Tok} (y_MOST_FLUSHES : PySem.W.nsIn K mainGlobals "MOST_FLUSHES" = some (some (.int (60) t_MOST_FLUSHES)))
    : ∃ fd : FuncData, (∀ (s : Shared) (v : Value), BindsTo s fd ⟨[v], []⟩ [("_law_script", v)]) ∧ ∀ base : Heap, K.In base → base.Ns mainGlobals mg → FnOk l.prog w K mg base CX0 7 fa fd ["_law_script"] (sp_law K) := by
  have e := hfa.symm.trans (PySem.W.mg_of X G a_law)
  cases e
  have F_is_int := fun_mk (st := s_is_int) l_is_int c_is_int k_is_int
  have B_is_int := F_is_int.binds (ps := ["value"]) fun _ _ _ _ _ _ us hl => match us, hl with | [_], _ => rfl
  have F_is_count := fun_mk (st := s_is_count) l_is_count c_is_count k_is_count
  have B_is_count := F_is_count.binds (ps := ["value"]) fun _ _ _ _ _ _ us hl => match us, hl with | [_], _ => rfl
  have F_is_count_up_to := fun_mk (st := s_is_count_up_to) l_is_count_up_to c_is_count_up_to k_is_count_up_to
  have B_is_count_up_to := F_is_count_up_to.binds (ps := ["value", "most"]) fun _ _ _ _ _ _ us hl => match us, hl with | [_, _], _ => rfl
  have F_is_schedule := fun_mk (st := s_is_schedule) l_is_schedule c_is_schedule k_is_schedule
  have B_is_schedule := F_is_schedule.binds (ps := ["value"]) fun _ _ _ _ _ _ us hl => match us, hl with | [_], _ => rfl
  have F_count_schedules := fun_mk (st := s_count_schedules) l_count_schedules c_count_schedules k_count_schedules
  have B_count_schedules := F_count_schedules.binds (ps := ["n"]) fun _ _ _ _ _ _ us hl => match us, hl with | [_], _ => rfl
  have F_check_flushes := fun_mk (st := s_check_flushes) l_check_flushes c_check_flushes k_check_flushes
  have B_check_flushes := F_check_flushes.binds (ps := ["n"]) fun _ _ _ _ _ _ us hl => match us, hl with | [_], _ => rfl
  have F_continuations := fun_mk (st := s_continuations) l_continuations c_continuations k_continuations
  have B_continuations := F_continuations.binds (ps := ["n"]) fun _ _ _ _ _ _ us hl => match us, hl with | [_], _ => rfl
  have F_index_of := fun_mk (st := s_index_of) l_index_of c_index_of k_index_of
  have B_index_of := F_index_of.binds (ps := ["schedule"]) fun _ _ _ _ _ _ us hl => match us, hl with | [_], _ => rfl
  have F_schedule_at := fun_mk (st := s_schedule_at) l_schedule_at c_schedule_at k_schedule_at
  have B_schedule_at := F_schedule_at.binds (ps := ["n", "index"]) fun _ _ _ _ _ _ us hl => match us, hl with | [_, _], _ => rfl
  have F_L_pot := fun_mk (st := s_L_pot) l_L_pot c_L_pot k_L_pot
  have B_L_pot := F_L_pot.binds (ps := ["_law_script", "_law_place"]) fun _ _ _ _ _ _ us hl => match us, hl with | [_, _], _ => rfl
  have F_L_take := fun_mk (st := s_L_take) l_L_take c_L_take k_L_take
  have B_L_take := F_L_take.binds (ps := ["_law_pot", "_law_size"]) fun _ _ _ _ _ _ us hl => match us, hl with | [_, _], _ => rfl
  have F_L_of := fun_mk (st := s_L_of) l_L_of c_L_of k_L_of
  have B_L_of := F_L_of.binds (ps := ["_law_pot", "_law_options"]) fun _ _ _ _ _ _ us hl => match us, hl with | [_, _], _ => rfl
  have F_L_drawn := fun_mk (st := s_L_drawn) l_L_drawn c_L_drawn k_L_drawn
  have B_L_drawn := F_L_drawn.binds (ps := ["_law_pot", "_law_size"]) fun _ _ _ _ _ _ us hl => match us, hl with | [_, _], _ => rfl
  have F_L_is_count := fun_mk (st := s_L_is_count) l_L_is_count c_L_is_count k_L_is_count
  have B_L_is_count := F_L_is_count.binds (ps := ["_law_item", "_law_most"]) fun _ _ _ _ _ _ us hl => match us, hl with | [_, _], _ => rfl
  have F_L_valid := fun_mk (st := s_L_valid) l_L_valid c_L_valid k_L_valid
  have B_L_valid := F_L_valid.binds (ps := ["_law_item"]) fun _ _ _ _ _ _ us hl => match us, hl with | [_], _ => rfl
  have F_L_numbers := fun_mk (st := s_L_numbers) l_L_numbers c_L_numbers k_L_numbers
  have B_L_numbers := F_L_numbers.binds (ps := ["_law_size"]) fun _ _ _ _ _ _ us hl => match us, hl with | [_], _ => rfl
  have F_L_next := fun_mk (st := s_L_next) l_L_next c_L_next k_L_next
  have B_L_next := F_L_next.binds (ps := ["_law_plan"]) fun _ _ _ _ _ _ us hl => match us, hl with | [_], _ => rfl
  have F_L_right := fun_mk (st := s_L_right) l_L_right c_L_right k_L_right
  have B_L_right := F_L_right.binds (ps := ["_law_size", "_law_index", "_law_total"]) fun _ _ _ _ _ _ us hl => match us, hl with | [_, _, _], _ => rfl
  have F_law := fun_mk (st := s_law) l_law c_law k_law
  have B_law := F_law.binds (ps := ["_law_script"]) fun _ _ _ _ _ _ us hl => match us, hl with | [_], _ => rfl
  let TX : Tx K mg := ⟨_, _, F_is_int, PySem.W.mg_of X G a_is_int, B_is_int, _, _, F_is_count, PySem.W.mg_of X G a_is_count, B_is_count, _, _, F_is_count_up_to, PySem.W.mg_of X G a_is_count_up_to, B_is_count_up_to, _, _, F_is_schedule, PySem.W.mg_of X G a_is_schedule, B_is_schedule, _, _, F_count_schedules, PySem.W.mg_of X G a_count_schedules, B_count_schedules, _, _, F_check_flushes, PySem.W.mg_of X G a_check_flushes, B_check_flushes, _, _, F_continuations, PySem.W.mg_of X G a_continuations, B_continuations, _, _, F_index_of, PySem.W.mg_of X G a_index_of, B_index_of, _, _, F_schedule_at, PySem.W.mg_of X G a_schedule_at, B_schedule_at, _, _, F_L_pot, PySem.W.mg_of X G a_L_pot, B_L_pot, _, _, F_L_take, PySem.W.mg_of X G a_L_take, B_L_take, _, _, F_L_of, PySem.W.mg_of X G a_L_of, B_L_of, _, _, F_L_drawn, PySem.W.mg_of X G a_L_drawn, B_L_drawn, _, _, F_L_is_count, PySem.W.mg_of X G a_L_is_count, B_L_is_count, _, _, F_L_valid, PySem.W.mg_of X G a_L_valid, B_L_valid, _, _, F_L_numbers, PySem.W.mg_of X G a_L_numbers, B_L_numbers, _, _, F_L_next, PySem.W.mg_of X G a_L_next, B_L_next, _, _, F_L_right, PySem.W.mg_of X G a_L_right, B_L_right, _, _, F_law, PySem.W.mg_of X G a_law, B_law, PySem.W.mg_none_of X G z_isinstance, PySem.W.mg_none_of X G z_int, PySem.W.mg_none_of X G z_bool, PySem.W.mg_none_of X G z_tuple, PySem.W.mg_none_of X G z_len, PySem.W.mg_none_of X G z_enumerate, PySem.W.mg_none_of X G z_sum, PySem.W.mg_none_of X G z_range, PySem.W.mg_none_of X G z_abs, PySem.W.mg_none_of X G z_min, PySem.W.mg_none_of X G z_max, PySem.W.mg_none_of X G z_all, _, PySem.W.mg_of X G y_MOST_FLUSHES⟩
  exact ⟨TX.fd_law, fun s v => .of_eq rfl, fun base _ _ => ok_law TX⟩
end MB
open PySem PySem.W PyProof.Rows
set_option maxHeartbeats 0 in
theorem PySem.Challenge.cw_mergebudget_k10_indexes_of_long_schedule_holds : PySem.Challenge.rw_mergebudget_k10_indexes_of_long_schedule.Holds := by
  w_on; o_law; k_head; (case hw => w_witness2)
  k_fill
  refine L2.walk_of (l := PySem.Challenge.rw_mergebudget_k10_indexes_of_long_schedule) (n := 63) (k := 7) (x := "_law_script") (CX := fun _ => L2.CX0) (sp := fun w => MB.sp_law _) rfl (by decide) rfl ⟨rfl, by decide, by decide⟩ (fun w h Y => PySem.W.kIn_of Y) ?F (fun _ _ a ns hl _ hS => ⟨a, ns, rfl, hS, hl, fun _ => rfl⟩) (fun _ _ _ _ _ h => h)
  case F =>
    intro w mg fa h KX G hmg
    refine' MB.all_mk KX G hmg ?a_is_int ?l_is_int ?c_is_int ?k_is_int ?a_is_count ?l_is_count ?c_is_count ?k_is_count ?a_is_count_up_to ?l_is_count_up_to ?c_is_count_up_to ?k_is_count_up_to ?a_is_schedule ?l_is_schedule ?c_is_schedule ?k_is_schedule ?a_count_schedules ?l_count_schedules ?c_count_schedules ?k_count_schedules ?a_check_flushes ?l_check_flushes ?c_check_flushes ?k_check_flushes ?a_continuations ?l_continuations ?c_continuations ?k_continuations ?a_index_of ?l_index_of ?c_index_of ?k_index_of ?a_schedule_at ?l_schedule_at ?c_schedule_at ?k_schedule_at ?a_L_pot ?l_L_pot ?c_L_pot ?k_L_pot ?a_L_take ?l_L_take ?c_L_take ?k_L_take ?a_L_of ?l_L_of ?c_L_of ?k_L_of ?a_L_drawn ?l_L_drawn ?c_L_drawn ?k_L_drawn ?a_L_is_count ?l_L_is_count ?c_L_is_count ?k_L_is_count ?a_L_valid ?l_L_valid ?c_L_valid ?k_L_valid ?a_L_numbers ?l_L_numbers ?c_L_numbers ?k_L_numbers ?a_L_next ?l_L_next ?c_L_next ?k_L_next ?a_L_right ?l_L_right ?c_L_right ?k_L_right ?a_law ?l_law ?c_law ?k_law ?z_isinstance ?z_int ?z_bool ?z_tuple ?z_len ?z_enumerate ?z_sum ?z_range ?z_abs ?z_min ?z_max ?z_all ?y_MOST_FLUSHES
    (case a_is_int => k_is); (case l_is_int => k_is); (case c_is_int => k_is); (case k_is_int => k_is); (case a_is_count => k_is); (case l_is_count => k_is); (case c_is_count => k_is); (case k_is_count => k_is); (case a_is_count_up_to => k_is); (case l_is_count_up_to => k_is); (case c_is_count_up_to => k_is); (case k_is_count_up_to => k_is); (case a_is_schedule => k_is); (case l_is_schedule => k_is); (case c_is_schedule => k_is); (case k_is_schedule => k_is); (case a_count_schedules => k_is); (case l_count_schedules => k_is); (case c_count_schedules => k_is); (case k_count_schedules => k_is); (case a_check_flushes => k_is); (case l_check_flushes => k_is); (case c_check_flushes => k_is); (case k_check_flushes => k_is); (case a_continuations => k_is); (case l_continuations => k_is); (case c_continuations => k_is); (case k_continuations => k_is); (case a_index_of => k_is); (case l_index_of => k_is); (case c_index_of => k_is); (case k_index_of => k_is); (case a_schedule_at => k_is); (case l_schedule_at => k_is); (case c_schedule_at => k_is); (case k_schedule_at => k_is); (case a_L_pot => k_is); (case l_L_pot => k_is); (case c_L_pot => k_is); (case k_L_pot => k_is); (case a_L_take => k_is); (case l_L_take => k_is); (case c_L_take => k_is); (case k_L_take => k_is); (case a_L_of => k_is); (case l_L_of => k_is); (case c_L_of => k_is); (case k_L_of => k_is); (case a_L_drawn => k_is); (case l_L_drawn => k_is); (case c_L_drawn => k_is); (case k_L_drawn => k_is); (case a_L_is_count => k_is); (case l_L_is_count => k_is); (case c_L_is_count => k_is); (case k_L_is_count => k_is); (case a_L_valid => k_is); (case l_L_valid => k_is); (case c_L_valid => k_is); (case k_L_valid => k_is); (case a_L_numbers => k_is); (case l_L_numbers => k_is); (case c_L_numbers => k_is); (case k_L_numbers => k_is); (case a_L_next => k_is); (case l_L_next => k_is); (case c_L_next => k_is); (case k_L_next => k_is); (case a_L_right => k_is); (case l_L_right => k_is); (case c_L_right => k_is); (case k_L_right => k_is); (case a_law => k_is); (case l_law => k_is); (case c_law => k_is); (case k_law => k_is); (case z_isinstance => k_is); (case z_int => k_is); (case z_bool => k_is); (case z_tuple => k_is); (case z_len => k_is); (case z_enumerate => k_is); (case z_sum => k_is); (case z_range => k_is); (case z_abs => k_is); (case z_min => k_is); (case z_max => k_is); (case z_all => k_is); (case y_MOST_FLUSHES => k_is)
