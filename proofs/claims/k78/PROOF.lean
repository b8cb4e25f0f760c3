import PyProof.Rows.All
import Wide.All
import OpenK.AllK
import Wide.FinOn
import HandS.ForMost
import HandS.IsInst
import HandS.Wide
import HandS.TupAny
import HandS.TupMul
import HandS.Rev
import HandS.Style
import HandS.Strs
import HandS.Walk
import KE.GoesEnum
import PyProof.ReprRoads
import PyProof.ReprBulk
import HandS.WideMore
import HandS.SortKw
import HandS.SortInts
import KE.DataMinMax
import HandS.Deep
import PySem.Challenge.RW_mergebudget_k78_whole_policies_write_lea
set_option Elab.async false
set_option linter.all false
set_option maxRecDepth 100000
namespace MB
inductive T where
  | nil
  | node (l r : T)
  deriving DecidableEq

namespace T
def size : T → Nat
  | nil => 0
  | node l r => l.size + 1 + r.size
def runs : T → Nat
  | nil => 0
  | node _ r => 1 + r.runs
def sch : T → List Nat
  | nil => []
  | node l r => l.sch ++ l.runs :: r.sch
def rc : T → List Nat
  | nil => []
  | node l r => l.rc ++ 1 :: r.rc.map (· + 1)
def wr : T → List Nat
  | nil => []
  | node l r => l.wr.map (· + 1) ++ 1 :: r.wr
/-- parents: off, the number of the first node; p, the parent of the root -/
def par (off p : Int) : T → List Int
  | nil => []
  | node l r => par off (off + l.size) l ++ p :: par (off + l.size + 1) (off + l.size) r
def mir : T → T
  | nil => nil
  | node l r => node r.mir l.mir
def push (t : T) (m : Nat) : T :=
  if m = t.runs then node t nil else match t with
    | nil => nil
    | node l r => node l (push r m)
/-- the first flush of the run that a flush that merges m writes -/
def start (t : T) (m : Nat) : Nat :=
  if m = t.runs then 0 else match t with
    | nil => 0
    | node l r => l.size + 1 + start r m
/-- the stack: intervals of the right spine -/
def stk (off : Nat) : T → List (Nat × Nat)
  | nil => []
  | node l r => (off, off + l.size + 1) :: stk (off + l.size + 1) r
def graft : T → T → T
  | nil, t => t
  | node l r, t => node l (graft r t)

theorem sch_len : ∀ t : T, t.sch.length = t.size
  | nil => rfl
  | node l r => by simp [sch, size, sch_len l, sch_len r]; omega
theorem rc_len : ∀ t : T, t.rc.length = t.size
  | nil => rfl
  | node l r => by simp [rc, size, rc_len l, rc_len r]; omega
theorem wr_len : ∀ t : T, t.wr.length = t.size
  | nil => rfl
  | node l r => by simp [wr, size, wr_len l, wr_len r]; omega
theorem par_len : ∀ (t : T) (off p : Int), (t.par off p).length = t.size
  | nil, _, _ => rfl
  | node l r, off, p => by simp [par, size, par_len l, par_len r]; omega
theorem runs_le : ∀ t : T, t.runs ≤ t.size
  | nil => Nat.le_refl _
  | node l r => by have := runs_le r; simp [runs, size]; omega
theorem sum_sch : ∀ t : T, t.sch.sum + t.runs = t.size
  | nil => rfl
  | node l r => by
    have h1 := sum_sch l; have h2 := sum_sch r
    simp [sch, runs, size, List.sum_append]; omega
theorem stk_len : ∀ (t : T) (off : Nat), (t.stk off).length = t.runs
  | nil, _ => rfl
  | node l r, off => by simp [stk, runs, stk_len r]; omega

/-! ### push -/
theorem push_eq {t : T} : t.push t.runs = node t nil := by
  unfold push; rw [if_pos rfl]
theorem push_node {l r : T} {m : Nat} (h : m ≤ r.runs) : (node l r).push m = node l (r.push m) := by
  conv => lhs; unfold push
  rw [if_neg (by simp [runs]; omega)]
theorem start_eq {t : T} : t.start t.runs = 0 := by
  unfold start; rw [if_pos rfl]
theorem start_node {l r : T} {m : Nat} (h : m ≤ r.runs) : (node l r).start m = l.size + 1 + r.start m := by
  conv => lhs; unfold start
  rw [if_neg (by simp [runs]; omega)]
/-- the two ways of a push -/
theorem push_ind {C : T → Nat → Prop} (h1 : ∀ t, C t t.runs) (h2 : ∀ l r m, m ≤ r.runs → C r m → C (node l r) m) : ∀ (t : T) (m : Nat), m ≤ t.runs → C t m
  | nil, m, h => by
    have : m = nil.runs := by simp [runs] at h ⊢; omega
    rw [this]; exact h1 nil
  | node l r, m, h => by
    by_cases e : m = (node l r).runs
    · rw [e]; exact h1 _
    · have hm : m ≤ r.runs := by simp [runs] at h e; omega
      exact h2 l r m hm (push_ind h1 h2 r m hm)
theorem push_sch : ∀ (t : T) (m : Nat), m ≤ t.runs → (t.push m).sch = t.sch ++ [m] :=
  push_ind (fun t => by rw [push_eq]; simp [sch]) fun l r m h ih => by rw [push_node h]; simp [sch, ih]
theorem push_size : ∀ (t : T) (m : Nat), m ≤ t.runs → (t.push m).size = t.size + 1 :=
  push_ind (fun t => by rw [push_eq]; simp [size]) fun l r m h ih => by rw [push_node h]; simp [size, ih]; omega
theorem push_runs : ∀ (t : T) (m : Nat), m ≤ t.runs → (t.push m).runs = t.runs - m + 1 :=
  push_ind (fun t => by rw [push_eq]; simp [runs]) fun l r m h ih => by rw [push_node h]; simp [runs, ih]; omega
theorem push_rc : ∀ (t : T) (m : Nat), m ≤ t.runs → (t.push m).rc = t.rc ++ [t.runs - m + 1] :=
  push_ind (fun t => by rw [push_eq]; simp [rc]) fun l r m h ih => by
    rw [push_node h]; simp [rc, ih, runs]; omega
theorem start_le : ∀ (t : T) (m : Nat), m ≤ t.runs → t.start m ≤ t.size :=
  push_ind (fun t => by rw [start_eq]; omega) fun l r m h ih => by rw [start_node h]; simp [size]; omega
theorem push_wr : ∀ (t : T) (m : Nat), m ≤ t.runs → (t.push m).wr = t.wr.take (t.start m) ++ ((t.wr.drop (t.start m)).map (· + 1) ++ [1]) :=
  push_ind (fun t => by rw [push_eq, start_eq]; simp [wr]) fun l r m h ih => by
    rw [push_node h, start_node h]
    have e : (wr (node l r)) = (l.wr.map (· + 1) ++ [1]) ++ r.wr := by simp [wr]
    have el : (l.wr.map (· + 1) ++ [1]).length = l.size + 1 := by simp [wr_len]
    rw [e, List.take_append, List.drop_append, el]
    rw [List.take_of_length_le (by rw [el]; omega), List.drop_eq_nil_of_le (by rw [el]; omega)]
    rw [show l.size + 1 + r.start m - (l.size + 1) = r.start m by omega]
    simp [wr, ih]
theorem stk_push : ∀ (t : T) (m : Nat), m ≤ t.runs → ∀ off, (t.push m).stk off = (t.stk off).take (t.runs - m) ++ [(off + t.start m, off + t.size + 1)] :=
  push_ind (fun t off => by rw [push_eq, start_eq]; simp [stk]) fun l r m h ih off => by
    rw [push_node h, start_node h]
    have hh : (node l r).runs - m = (r.runs - m) + 1 := by simp [runs]; omega
    rw [hh]
    simp [stk, ih, size]
    omega
theorem stk_at : ∀ (t : T) (m : Nat), m ≤ t.runs → ∀ off, 0 < m → ∃ e, (t.stk off)[t.runs - m]? = some (off + t.start m, e) :=
  push_ind (fun t off h => by
      rw [start_eq, Nat.sub_self]
      cases t with
      | nil => simp [runs] at h
      | node l r => exact ⟨_, rfl⟩) fun l r m h ih off h0 => by
    rw [start_node h]
    have hh : (node l r).runs - m = (r.runs - m) + 1 := by simp [runs]; omega
    rw [hh]
    obtain ⟨e, he⟩ := ih (off + l.size + 1) h0
    refine ⟨e, ?_⟩
    simp only [stk, List.getElem?_cons_succ, he]
    congr 2; omega
theorem start_zero : ∀ (t : T) (m : Nat), m ≤ t.runs → m = 0 → t.start m = t.size :=
  push_ind (fun t h => by
      rw [start_eq]
      cases t with
      | nil => rfl
      | node l r => simp [runs] at h) fun l r m h ih h0 => by
    rw [start_node h, ih h0]; simp [size]

/-! ### schedules and trees -/
theorem graft_nil : ∀ t : T, t.graft nil = t
  | nil => rfl
  | node l r => by simp [graft, graft_nil r]
theorem graft_assoc : ∀ a b c : T, (a.graft b).graft c = a.graft (b.graft c)
  | nil, _, _ => rfl
  | node l r, b, c => by simp [graft, graft_assoc r b c]
theorem graft_runs : ∀ a b : T, (a.graft b).runs = a.runs + b.runs
  | nil, b => by simp [graft, runs]
  | node l r, b => by simp [graft, runs, graft_runs r b]; omega
theorem graft_push : ∀ (u l : T), (u.graft l).push l.runs = u.graft (node l nil)
  | nil, l => by simp [graft, push_eq]
  | node a b, l => by
    simp only [graft]
    rw [push_node (by rw [graft_runs]; omega), graft_push b l]
theorem foldl_sch : ∀ (t u : T), t.sch.foldl push u = u.graft t
  | nil, u => by simp [sch, graft_nil]
  | node l r, u => by
    simp only [sch, List.foldl_append, List.foldl_cons]
    rw [foldl_sch l u, graft_push, foldl_sch r, graft_assoc]
    rfl
theorem sch_inj {a b : T} (h : a.sch = b.sch) : a = b := by
  have e1 := foldl_sch a nil
  have e2 := foldl_sch b nil
  rw [h, e2] at e1
  exact e1.symm
end T

/-- a schedule that begins with `runs` runs -/
def Ok : Nat → List Nat → Prop
  | _, [] => True
  | k, m :: r => m ≤ k ∧ Ok (k - m + 1) r
theorem ok_tree : ∀ (p : List Nat) (u : T), Ok u.runs p → ∃ t : T, t.sch = u.sch ++ p ∧ p.foldl T.push u = t
  | [], u, _ => ⟨u, by simp, rfl⟩
  | m :: r, u, h => by
    obtain ⟨h1, h2⟩ := h
    rw [← T.push_runs u m h1] at h2
    obtain ⟨t, e1, e2⟩ := ok_tree r (u.push m) h2
    exact ⟨t, by rw [e1, T.push_sch u m h1]; simp, e2⟩
theorem tree_ex {p : List Nat} (h : Ok 0 p) : ∃ t : T, t.sch = p := by
  obtain ⟨t, e, _⟩ := ok_tree p .nil h
  exact ⟨t, by rw [e]; rfl⟩
theorem ok_app : ∀ (p q : List Nat) (k k' : Nat), Ok k p → k' + p.sum = k + p.length → Ok k' q → Ok k (p ++ q)
  | [], q, k, k', _, e, h => by
    have : k' = k := by simpa using e
    subst this; exact h
  | m :: r, q, k, k', h, e, hq => ⟨h.1, ok_app r q (k - m + 1) k' h.2 (by have := h.1; simp at e; omega) hq⟩
theorem ok_sch_from : ∀ (t : T) (k : Nat), Ok k t.sch
  | .nil, _ => trivial
  | .node l r, k => by
    refine ok_app l.sch _ k (k + l.runs) (ok_sch_from l k) (by have := T.sum_sch l; rw [T.sch_len]; omega) ?_
    exact ⟨by omega, ok_sch_from r _⟩
theorem ok_take : ∀ (p : List Nat) (k i : Nat), Ok k p → Ok k (p.take i)
  | [], _, i, _ => by cases i <;> trivial
  | m :: r, k, 0, _ => trivial
  | m :: r, k, i + 1, h => ⟨h.1, ok_take r _ i h.2⟩
/-- the tree of the first i flushes -/
def pre (t : T) (i : Nat) : T := (t.sch.take i).foldl T.push .nil
theorem pre_sch (t : T) (i : Nat) : (pre t i).sch = t.sch.take i := by
  obtain ⟨u, e1, e2⟩ := ok_tree (t.sch.take i) .nil (ok_take _ _ i (ok_sch_from t _))
  unfold pre; rw [e2, e1]; rfl
theorem pre_size {t : T} {i : Nat} (h : i ≤ t.size) : (pre t i).size = i := by
  rw [← T.sch_len, pre_sch, List.length_take, T.sch_len]; omega
theorem pre_zero (t : T) : pre t 0 = .nil := rfl
theorem pre_all (t : T) : pre t t.size = t := T.sch_inj (by rw [pre_sch, List.take_of_length_le (by rw [T.sch_len]; exact Nat.le_refl _)])
theorem ok_last : ∀ (p : List Nat) (k m : Nat) (q : List Nat), Ok k (p ++ m :: q) → m + p.sum ≤ k + p.length
  | [], k, m, q, h => by simpa using h.1
  | a :: r, k, m, q, h => by
    have := ok_last r (k - a + 1) m q h.2
    have h1 := h.1
    simp; omega
theorem pre_succ {t : T} {i : Nat} {m : Nat} (h : t.sch[i]? = some m) : pre t (i + 1) = (pre t i).push m ∧ m ≤ (pre t i).runs := by
  have hi : i < t.sch.length := (List.getElem?_eq_some_iff.mp h).1
  constructor
  · unfold pre
    rw [List.take_add_one, h]
    simp
  · have e : t.sch = t.sch.take i ++ m :: t.sch.drop (i + 1) := by
      have h2 := List.getElem?_eq_some_iff.mp h
      obtain ⟨h3, h4⟩ := h2
      rw [← h4]
      simp
    have h1 := ok_sch_from t 0
    rw [e] at h1
    have h2 := ok_last _ _ _ _ h1
    have h3 := T.sum_sch (pre t i)
    rw [pre_sch] at h3
    have h4 : (pre t i).size = (t.sch.take i).length := by rw [← T.sch_len, pre_sch]
    omega
theorem rc_take : ∀ (t : T) (i : Nat), (pre t i).rc = t.rc.take i := by
  intro t i
  by_cases hi : i ≤ t.size
  · suffices h : ∀ k, i + k = t.size → (pre t i).rc = t.rc.take i from h (t.size - i) (by omega)
    intro k
    induction k generalizing i with
    | zero =>
      intro e
      rw [show i = t.size by omega, pre_all, List.take_of_length_le (by rw [T.rc_len]; omega)]
    | succ k ih =>
      intro e
      have hl : i < t.sch.length := by rw [T.sch_len]; omega
      obtain ⟨e1, h1⟩ := pre_succ (List.getElem?_eq_getElem hl)
      have h2 := ih (i + 1) (by omega) (by omega)
      rw [e1, T.push_rc _ _ h1] at h2
      have h3 := congrArg (List.take i) h2
      rw [List.take_append_of_le_length (by rw [T.rc_len, pre_size (by omega)]; omega), List.take_take, List.take_of_length_le (by rw [T.rc_len, pre_size (by omega)]; omega)] at h3
      rw [h3]; congr 1; omega
  · have e : t.sch.take i = t.sch := List.take_of_length_le (by rw [T.sch_len]; omega)
    have : pre t i = t := T.sch_inj (by rw [pre_sch, e])
    rw [this, List.take_of_length_le (by rw [T.rc_len]; omega)]
theorem rc_at {t : T} {i m : Nat} (h : t.sch[i]? = some m) : t.rc[i]? = some ((pre t i).runs - m + 1) := by
  obtain ⟨e1, h1⟩ := pre_succ h
  have hi : i < t.size := by rw [← T.sch_len]; exact (List.getElem?_eq_some_iff.mp h).1
  have h2 := rc_take t (i + 1)
  rw [e1, T.push_rc _ _ h1] at h2
  have h3 := congrArg (fun l : List Nat => l[i]?) h2
  simp only [List.getElem?_take] at h3
  rw [List.getElem?_append_right (by rw [T.rc_len, pre_size (by omega)]; omega), T.rc_len, pre_size (by omega)] at h3
  simp at h3
  exact h3.symm
theorem pre_runs {t : T} {i : Nat} (h : i < t.size) : t.rc[i]? = some (pre t (i + 1)).runs := by
  have hl : i < t.sch.length := by rw [T.sch_len]; exact h
  obtain ⟨e1, h1⟩ := pre_succ (List.getElem?_eq_getElem hl)
  rw [rc_at (List.getElem?_eq_getElem hl), e1, T.push_runs _ _ h1]
/-! ### write counts by place -/
theorem wr_step {t : T} {m : Nat} (h : m ≤ t.runs) (k : Nat) : ((t.push m).wr.getD k 0) = if t.start m ≤ k ∧ k < t.size + 1 then t.wr.getD k 0 + 1 else t.wr.getD k 0 := by
  have hs := T.start_le t m h
  have hl := T.wr_len t
  rw [T.push_wr t m h]
  simp only [List.getD_eq_getElem?_getD]
  by_cases h1 : k < t.start m
  · rw [List.getElem?_append_left (by rw [List.length_take]; omega), List.getElem?_take, if_pos h1, if_neg (by omega)]
  · have e : (t.wr.take (t.start m)).length = t.start m := by rw [List.length_take]; omega
    rw [List.getElem?_append_right (by omega), e]
    by_cases h2 : k < t.size
    · rw [List.getElem?_append_left (by rw [List.length_map, List.length_drop]; omega), List.getElem?_map, List.getElem?_drop, if_pos (by omega), show t.start m + (k - t.start m) = k by omega]
      rw [List.getElem?_eq_getElem (by omega)]
      rfl
    · by_cases h3 : k = t.size
      · have e2 : ((t.wr.drop (t.start m)).map (· + 1)).length = k - t.start m := by rw [List.length_map, List.length_drop]; omega
        rw [List.getElem?_append_right (by omega), e2, Nat.sub_self, if_pos (by omega), List.getElem?_eq_none (by omega : t.wr.length ≤ k)]
        rfl
      · rw [List.getElem?_eq_none (by simp; omega), if_neg (by omega), List.getElem?_eq_none (by omega : t.wr.length ≤ k)]
theorem list_by {c d : List Nat} (hl : c.length = d.length) (h : ∀ k, k < c.length → c[k]? = some (d.getD k 0)) : c = d := by
  refine List.ext_getElem? fun k => ?_
  by_cases hk : k < c.length
  · rw [h k hk, List.getD_eq_getElem?_getD, List.getElem?_eq_getElem (by omega)]
    rfl
  · rw [List.getElem?_eq_none (by omega), List.getElem?_eq_none (by omega)]
theorem stk_last {t : T} {i m : Nat} (h : t.sch[i]? = some m) : (pre t (i + 1)).stk 0 = ((pre t i).stk 0).take ((pre t i).runs - m) ++ [((pre t i).start m, i + 1)] := by
  obtain ⟨e, h1⟩ := pre_succ h
  have hi : i < t.size := by rw [← T.sch_len]; exact (List.getElem?_eq_some_iff.mp h).1
  rw [e, T.stk_push _ _ h1, Nat.zero_add, Nat.zero_add, pre_size (by omega)]

/-! ### subtrees -/
inductive Sub (t : T) : Nat → T → Nat → Int → Prop
  | root : Sub t 0 t 1 (-1)
  | left {off k : Nat} {p : Int} {l r : T} : Sub t off (.node l r) k p → Sub t off l k ((off + l.size : Nat) : Int)
  | right {off k : Nat} {p : Int} {l r : T} : Sub t off (.node l r) k p → Sub t (off + l.size + 1) r (k + 1) ((off + l.size : Nat) : Int)
def T.parOf (t : T) : List Int := t.par 0 (-1)
theorem slice_left {α : Type} {L a b : List α} {x : α} {off : Nat} (h : (L.drop off).take (a.length + 1 + b.length) = a ++ x :: b) : (L.drop off).take a.length = a := by
  have := congrArg (List.take a.length) h
  rw [List.take_take, List.take_left' rfl, show min a.length (a.length + 1 + b.length) = a.length by omega] at this
  exact this
theorem slice_mid {α : Type} {L a b : List α} {x : α} {off : Nat} (h : (L.drop off).take (a.length + 1 + b.length) = a ++ x :: b) : L[off + a.length]? = some x := by
  have := congrArg (fun l : List α => l[a.length]?) h
  simp only [List.getElem?_take, List.getElem?_drop] at this
  rw [if_pos (by omega), List.getElem?_append_right (Nat.le_refl _), Nat.sub_self] at this
  simpa using this
theorem slice_right {α : Type} {L a b : List α} {x : α} {off : Nat} (h : (L.drop off).take (a.length + 1 + b.length) = a ++ x :: b) : (L.drop (off + a.length + 1)).take b.length = b := by
  have := congrArg (List.drop (a.length + 1)) h
  rw [List.drop_take, List.drop_drop] at this
  have e2 : List.drop (a.length + 1) (a ++ x :: b) = b := by
    rw [List.drop_append]; simp
  rw [e2] at this
  have h2 := congrArg (List.take b.length) this
  rw [List.take_take, List.take_length] at h2
  rw [← Nat.add_assoc] at h2
  rw [show b.length = min b.length (a.length + 1 + b.length - (a.length + 1)) by omega]
  exact h2
theorem sub_le {t : T} {off k : Nat} {s : T} {p : Int} (h : Sub t off s k p) : off + s.size ≤ t.size ∧ 1 ≤ k ∧ k ≤ off + 1 := by
  induction h with
  | root => exact ⟨by omega, by omega, by omega⟩
  | left _ ih => simp only [T.size] at ih; omega
  | right _ ih => simp only [T.size] at ih; omega
theorem sub_out {t : T} {off k : Nat} {s : T} {p : Int} (h : Sub t off s k p) : (p = -1 ∨ ((0 ≤ p ∧ p < t.size) ∧ (p + 1 = off ∨ p = ((off + s.size : Nat) : Int)))) := by
  cases h with
  | root => exact .inl rfl
  | left h => have := sub_le h; simp only [T.size] at this; exact .inr ⟨by omega, .inr rfl⟩
  | right h => have := sub_le h; simp only [T.size] at this; exact .inr ⟨by omega, .inl (by omega)⟩
theorem sub_rc {t : T} {off k : Nat} {s : T} {p : Int} (h : Sub t off s k p) : (t.rc.drop off).take s.size = s.rc.map (· + (k - 1)) := by
  induction h with
  | root => simp [← T.rc_len]
  | @left off k p l r h ih =>
    have e : (T.node l r).rc.map (· + (k - 1)) = l.rc.map (· + (k - 1)) ++ (1 + (k - 1)) :: (r.rc.map (· + 1)).map (· + (k - 1)) := by simp [T.rc]
    rw [e] at ih
    have hl : (l.rc.map (· + (k - 1))).length = l.size := by rw [List.length_map, T.rc_len]
    have hr : ((r.rc.map (· + 1)).map (· + (k - 1))).length = r.size := by rw [List.length_map, List.length_map, T.rc_len]
    have := slice_left (a := l.rc.map (· + (k - 1))) (b := (r.rc.map (· + 1)).map (· + (k - 1))) (L := t.rc) (off := off) (x := 1 + (k - 1)) (by rw [hl, hr]; exact ih)
    rw [hl] at this
    exact this
  | @right off k p l r h ih =>
    have e : (T.node l r).rc.map (· + (k - 1)) = l.rc.map (· + (k - 1)) ++ (1 + (k - 1)) :: (r.rc.map (· + 1)).map (· + (k - 1)) := by simp [T.rc]
    rw [e] at ih
    have hl : (l.rc.map (· + (k - 1))).length = l.size := by rw [List.length_map, T.rc_len]
    have hr : ((r.rc.map (· + 1)).map (· + (k - 1))).length = r.size := by rw [List.length_map, List.length_map, T.rc_len]
    have := slice_right (a := l.rc.map (· + (k - 1))) (b := (r.rc.map (· + 1)).map (· + (k - 1))) (L := t.rc) (off := off) (x := 1 + (k - 1)) (by rw [hl, hr]; exact ih)
    rw [hl, hr] at this
    rw [this, List.map_map]
    refine List.map_congr_left fun a _ => ?_
    have := (sub_le h).2.1
    simp only [Function.comp]
    omega
theorem sub_par {t : T} {off k : Nat} {s : T} {p : Int} (h : Sub t off s k p) : (t.parOf.drop off).take s.size = s.par (off : Int) p := by
  induction h with
  | root => simp only [T.parOf]; rw [List.drop_zero, List.take_of_length_le (by rw [T.par_len]; omega)]; rfl
  | @left off k p l r h ih =>
    simp only [T.par] at ih
    have hl := T.par_len l (off : Int) ((off : Int) + l.size)
    have hr := T.par_len r ((off : Int) + l.size + 1) ((off : Int) + l.size)
    have := slice_left (a := l.par (off : Int) ((off : Int) + l.size)) (b := r.par ((off : Int) + l.size + 1) ((off : Int) + l.size)) (L := t.parOf) (off := off) (x := p) (by rw [hl, hr]; exact ih)
    rw [hl] at this
    rw [this, Int.natCast_add]
  | @right off k p l r h ih =>
    simp only [T.par] at ih
    have hl := T.par_len l (off : Int) ((off : Int) + l.size)
    have hr := T.par_len r ((off : Int) + l.size + 1) ((off : Int) + l.size)
    have := slice_right (a := l.par (off : Int) ((off : Int) + l.size)) (b := r.par ((off : Int) + l.size + 1) ((off : Int) + l.size)) (L := t.parOf) (off := off) (x := p) (by rw [hl, hr]; exact ih)
    rw [hl, hr] at this
    rw [this]
    simp only [Int.natCast_add]
    rfl
theorem sub_root {t : T} {off k : Nat} {l r : T} {p : Int} (h : Sub t off (.node l r) k p) : t.parOf[off + l.size]? = some p := by
  have ih := sub_par h
  simp only [T.par] at ih
  have hl := T.par_len l (off : Int) ((off : Int) + l.size)
  have hr := T.par_len r ((off : Int) + l.size + 1) ((off : Int) + l.size)
  have := slice_mid (a := l.par (off : Int) ((off : Int) + l.size)) (b := r.par ((off : Int) + l.size + 1) ((off : Int) + l.size)) (L := t.parOf) (off := off) (x := p) (by rw [hl, hr]; exact ih)
  rw [hl] at this
  exact this
/-- the parents of a subtree: the root's alone lies outside -/
theorem par_in : ∀ (s : T) (off p : Int) (i : Nat) (q : Int), (s.par off p)[i]? = some q → (∃ l r, s = .node l r ∧ i = l.size ∧ q = p) ∨ (off ≤ q ∧ q < off + s.size ∧ ∀ l r, s = .node l r → i ≠ l.size)
  | .nil, _, _, _, _, h => by simp [T.par] at h
  | .node l r, off, p, i, q, h => by
    simp only [T.par] at h
    have hl := T.par_len l off (off + l.size)
    by_cases h1 : i < l.size
    · rw [List.getElem?_append_left (by omega)] at h
      refine .inr ?_
      rcases par_in l off (off + l.size) i q h with ⟨a, b, e, e2, e3⟩ | ⟨h2, h3, _⟩
      · refine ⟨by omega, by simp only [T.size]; omega, fun l' r' e' => by cases e'; omega⟩
      · refine ⟨by omega, by simp only [T.size]; omega, fun l' r' e' => by cases e'; omega⟩
    · rw [List.getElem?_append_right (by omega), hl] at h
      by_cases h2 : i = l.size
      · subst h2
        rw [Nat.sub_self] at h
        have : p = q := by simpa using h
        exact .inl ⟨l, r, rfl, rfl, this.symm⟩
      · obtain ⟨j, e⟩ : ∃ j, i - l.size = j + 1 := ⟨i - l.size - 1, by omega⟩
        rw [e, List.getElem?_cons_succ] at h
        refine .inr ?_
        rcases par_in r (off + l.size + 1) (off + l.size) j q h with ⟨a, b, e4, e2, e3⟩ | ⟨h4, h3, _⟩
        · refine ⟨by omega, by simp only [T.size]; omega, fun l' r' e' => by cases e'; omega⟩
        · refine ⟨by omega, by simp only [T.size]; omega, fun l' r' e' => by cases e'; omega⟩
theorem rc_pos : ∀ (s : T) (i v : Nat), s.rc[i]? = some v → 1 ≤ v
  | .nil, _, _, h => by simp [T.rc] at h
  | .node l r, i, v, h => by
    simp only [T.rc] at h
    by_cases h1 : i < l.size
    · rw [List.getElem?_append_left (by rw [T.rc_len]; exact h1)] at h
      exact rc_pos l i v h
    · rw [List.getElem?_append_right (by rw [T.rc_len]; omega), T.rc_len] at h
      rcases Nat.eq_zero_or_pos (i - l.size) with e | e
      · rw [e] at h; simp at h; omega
      · obtain ⟨j, e⟩ : ∃ j, i - l.size = j + 1 := ⟨i - l.size - 1, by omega⟩
        rw [e, List.getElem?_cons_succ, List.getElem?_map] at h
        cases h2 : r.rc[j]? with
        | none => rw [h2] at h; cases h
        | some u => rw [h2] at h; simp at h; omega
theorem rc_one {l r : T} {i : Nat} (h : (T.node l r).rc[i]? = some 1) : i ≤ l.size := by
  simp only [T.rc] at h
  by_cases h1 : i ≤ l.size
  · exact h1
  · rw [List.getElem?_append_right (by rw [T.rc_len]; omega), T.rc_len] at h
    obtain ⟨j, e⟩ : ∃ j, i - l.size = j + 1 := ⟨i - l.size - 1, by omega⟩
    rw [e, List.getElem?_cons_succ, List.getElem?_map] at h
    cases h2 : r.rc[j]? with
    | none => rw [h2] at h; cases h
    | some u =>
      have := rc_pos r j u h2
      rw [h2] at h; simp at h; omega
theorem rc_root (l r : T) : (T.node l r).rc[l.size]? = some 1 := by
  simp only [T.rc]
  rw [List.getElem?_append_right (by rw [T.rc_len]; exact Nat.le_refl _), T.rc_len, Nat.sub_self]; rfl
theorem sub_rc_at {t : T} {off k : Nat} {s : T} {p : Int} (h : Sub t off s k p) {i : Nat} (hi : i < s.size) : ∃ v, s.rc[i]? = some v ∧ t.rc[off + i]? = some (v + (k - 1)) := by
  have e := congrArg (fun l : List Nat => l[i]?) (sub_rc h)
  simp only [List.getElem?_take, List.getElem?_drop, List.getElem?_map] at e
  rw [if_pos hi] at e
  have hv := List.getElem?_eq_getElem (show i < s.rc.length by rw [T.rc_len]; exact hi)
  rw [hv] at e
  exact ⟨_, hv, e⟩
theorem sub_par_at {t : T} {off k : Nat} {s : T} {p : Int} (h : Sub t off s k p) {i : Nat} (hi : i < s.size) : ∃ q, (s.par (off : Int) p)[i]? = some q ∧ t.parOf[off + i]? = some q := by
  have e := congrArg (fun l : List Int => l[i]?) (sub_par h)
  simp only [List.getElem?_take, List.getElem?_drop] at e
  rw [if_pos hi] at e
  have hv := List.getElem?_eq_getElem (show i < (s.par (off : Int) p).length by rw [T.par_len]; exact hi)
  rw [hv] at e
  exact ⟨_, hv, e⟩
theorem filter_one {f : Nat → Bool} {n c : Nat} (hc : c < n) (h1 : f c = true) (h2 : ∀ i, i < n → f i = true → i = c) : (List.range n).filter f = [c] := by
  induction n with
  | zero => omega
  | succ n ih =>
    rw [List.range_succ, List.filter_append]
    by_cases e : c = n
    · subst e
      have e0 : (List.range c).filter f = [] := List.filter_eq_nil_iff.mpr fun i hi hf => by
        have := List.mem_range.mp hi
        have := h2 i (by omega) hf
        omega
      rw [e0]; simp [h1]
    · rw [ih (by omega) fun i hi hf => h2 i (by omega) hf]
      have : f n = false := by
        cases hf : f n with
        | false => rfl
        | true => exact absurd (h2 n (by omega) hf) (by omega)
      simp [this]
/-- the work of a list of subtrees -/
def todo : List (Nat × T × Nat × Int) → Nat
  | [] => 0
  | x :: r => 2 * x.2.1.size + 1 + todo r
theorem todo_app : ∀ a b, todo (a ++ b) = todo a + todo b
  | [], b => by simp [todo]
  | x :: r, b => by simp [todo, todo_app r b]; omega
theorem len_todo : ∀ L, L.length ≤ todo L
  | [] => Nat.le_refl _
  | x :: r => by have := len_todo r; simp [todo]; omega

/-! ### one step up -/
theorem getD_app_l {a b : List Nat} {i : Nat} (h : i < a.length) : (a ++ b).getD i 0 = a.getD i 0 := by
  simp only [List.getD_eq_getElem?_getD, List.getElem?_append_left h]
theorem getD_app_r {a b : List Nat} {i : Nat} (h : a.length ≤ i) : (a ++ b).getD i 0 = b.getD (i - a.length) 0 := by
  simp only [List.getD_eq_getElem?_getD, List.getElem?_append_right h]
theorem getD_map1 {a : List Nat} {i : Nat} (h : i < a.length) : (a.map (· + 1)).getD i 0 = a.getD i 0 + 1 := by
  simp only [List.getD_eq_getElem?_getD, List.getElem?_map, List.getElem?_eq_getElem h]; rfl
theorem wr_l {l r : T} {i : Nat} (h : i < l.size) : (T.node l r).wr.getD i 0 = l.wr.getD i 0 + 1 := by
  simp only [T.wr]
  rw [getD_app_l (by rw [List.length_map, T.wr_len]; exact h), getD_map1 (by rw [T.wr_len]; exact h)]
theorem wr_m {l r : T} : (T.node l r).wr.getD l.size 0 = 1 := by
  simp only [T.wr]
  rw [getD_app_r (by rw [List.length_map, T.wr_len]; exact Nat.le_refl _), List.length_map, T.wr_len, Nat.sub_self]; rfl
theorem wr_r {l r : T} {j : Nat} : (T.node l r).wr.getD (l.size + 1 + j) 0 = r.wr.getD j 0 := by
  simp only [T.wr]
  rw [getD_app_r (by rw [List.length_map, T.wr_len]; omega), List.length_map, T.wr_len, show l.size + 1 + j - l.size = j + 1 by omega, List.getD_cons_succ]
theorem rc_l {l r : T} {i : Nat} (h : i < l.size) : (T.node l r).rc.getD i 0 = l.rc.getD i 0 := by
  simp only [T.rc]
  rw [getD_app_l (by rw [T.rc_len]; exact h)]
theorem rc_m {l r : T} : (T.node l r).rc.getD l.size 0 = 1 := by
  simp only [T.rc]
  rw [getD_app_r (by rw [T.rc_len]; exact Nat.le_refl _), T.rc_len, Nat.sub_self]; rfl
theorem rc_r {l r : T} {j : Nat} (h : j < r.size) : (T.node l r).rc.getD (l.size + 1 + j) 0 = r.rc.getD j 0 + 1 := by
  simp only [T.rc]
  rw [getD_app_r (by rw [T.rc_len]; omega), T.rc_len, show l.size + 1 + j - l.size = j + 1 by omega, List.getD_cons_succ, getD_map1 (by rw [T.rc_len]; exact h)]
theorem up : ∀ (s : T) (off p : Int) (i : Nat) (q : Int), (s.par off p)[i]? = some q →
    (q = p ∧ s.wr.getD i 0 = 1 ∧ s.rc.getD i 0 = 1) ∨
    ∃ j : Nat, q = off + j ∧ j < s.size ∧ j ≠ i ∧ (i < j → s.wr.getD i 0 = s.wr.getD j 0 + 1 ∧ s.rc.getD i 0 = s.rc.getD j 0) ∧ (j < i → s.wr.getD i 0 = s.wr.getD j 0 ∧ s.rc.getD i 0 = s.rc.getD j 0 + 1)
  | .nil, _, _, _, _, h => by simp [T.par] at h
  | .node l r, off, p, i, q, h => by
    simp only [T.par] at h
    have hl := T.par_len l off (off + l.size)
    by_cases h1 : i < l.size
    · rw [List.getElem?_append_left (by omega)] at h
      refine .inr ?_
      rcases up l off (off + l.size) i q h with ⟨e, e1, e2⟩ | ⟨j, e, hj, hne, c1, c2⟩
      · exact ⟨l.size, e, by simp only [T.size]; omega, by omega, fun _ => ⟨by rw [wr_l h1, wr_m, e1], by rw [rc_l h1, rc_m, e2]⟩, fun z => by omega⟩
      · exact ⟨j, e, by simp only [T.size]; omega, hne, fun z => ⟨by rw [wr_l h1, wr_l hj, (c1 z).1], by rw [rc_l h1, rc_l hj, (c1 z).2]⟩, fun z => ⟨by rw [wr_l h1, wr_l hj, (c2 z).1], by rw [rc_l h1, rc_l hj, (c2 z).2]⟩⟩
    · rw [List.getElem?_append_right (by omega), hl] at h
      by_cases h2 : i = l.size
      · subst h2
        rw [Nat.sub_self] at h
        have : p = q := by simpa using h
        exact .inl ⟨this.symm, wr_m, rc_m⟩
      · obtain ⟨k, e⟩ : ∃ k, i = l.size + 1 + k := ⟨i - l.size - 1, by omega⟩
        subst e
        rw [show l.size + 1 + k - l.size = k + 1 by omega, List.getElem?_cons_succ] at h
        have hk : k < r.size := by
          have := (List.getElem?_eq_some_iff.mp h).1
          rw [T.par_len] at this; exact this
        refine .inr ?_
        rcases up r (off + l.size + 1) (off + l.size) k q h with ⟨e, e1, e2⟩ | ⟨j, e, hj, hne, c1, c2⟩
        · exact ⟨l.size, e, by simp only [T.size]; omega, by omega, fun z => by omega, fun _ => ⟨by rw [wr_r, wr_m, e1], by rw [rc_r hk, rc_m, e2]⟩⟩
        · exact ⟨l.size + 1 + j, by rw [e]; omega, by simp only [T.size]; omega, by omega, fun z => ⟨by rw [wr_r, wr_r, (c1 (by omega)).1], by rw [rc_r hk, rc_r hj, (c1 (by omega)).2]⟩, fun z => ⟨by rw [wr_r, wr_r, (c2 (by omega)).1], by rw [rc_r hk, rc_r hj, (c2 (by omega)).2]⟩⟩
theorem wr_pos {t : T} {i : Nat} (h : i < t.size) : 1 ≤ t.wr.getD i 0 := by
  induction t generalizing i with
  | nil => simp [T.size] at h
  | node l r ihl ihr =>
    by_cases h1 : i < l.size
    · rw [wr_l h1]; omega
    · by_cases h2 : i = l.size
      · subst h2; rw [wr_m]; exact Nat.le_refl _
      · obtain ⟨k, e⟩ : ∃ k, i = l.size + 1 + k := ⟨i - l.size - 1, by omega⟩
        subst e
        rw [wr_r]; exact ihr (by simp only [T.size] at h; omega)
theorem rc_posD {t : T} {i : Nat} (h : i < t.size) : 1 ≤ t.rc.getD i 0 := by
  have := List.getElem?_eq_getElem (show i < t.rc.length by rw [T.rc_len]; exact h)
  rw [List.getD_eq_getElem?_getD, this]
  exact rc_pos t i _ this

/-! ### mirrors -/
def mirN (N : Int) (q : Int) : Int := if q = -1 then -1 else N - 1 - q
theorem mir_size : ∀ t : T, t.mir.size = t.size
  | .nil => rfl
  | .node l r => by simp [T.mir, T.size, mir_size l, mir_size r]; omega
theorem mir_par : ∀ (s : T) (N off p : Int), 0 ≤ off → ((s.par off p).reverse).map (mirN N) = s.mir.par (N - off - s.size) (mirN N p)
  | .nil, _, _, _, _ => rfl
  | .node l r, N, off, p, h => by
    simp only [T.par, T.mir, List.reverse_append, List.reverse_cons, List.map_append, List.map_cons, List.map_nil]
    rw [mir_par l N off (off + l.size) h, mir_par r N (off + l.size + 1) (off + l.size) (by omega), mir_size]
    have e1 : mirN N (off + l.size) = N - 1 - (off + l.size) := by unfold mirN; rw [if_neg (by omega)]
    rw [e1]
    have e2 : N - off - ((T.node l r).size : Int) = N - (off + l.size + 1) - r.size := by simp only [T.size]; omega
    rw [e2]
    have e3 : N - (off + ↑l.size + 1) - ↑r.size + ↑r.size = N - 1 - (off + ↑l.size) := by omega
    rw [e3, show N - 1 - (off + (l.size : Int)) + 1 = N - off - l.size by omega]
    simp
theorem mir_parOf (t : T) : t.mir.parOf = (t.parOf.reverse).map (mirN t.size) := by
  unfold T.parOf
  rw [mir_par t t.size 0 (-1) (by omega)]
  rw [show ((t.size : Int) - 0 - t.size) = 0 by omega]
  rfl
theorem mir_wr : ∀ t : T, t.mir.wr = t.rc.reverse
  | .nil => rfl
  | .node l r => by simp [T.mir, T.wr, T.rc, mir_wr l, mir_wr r]
theorem mir_rc : ∀ t : T, t.mir.rc = t.wr.reverse
  | .nil => rfl
  | .node l r => by simp [T.mir, T.wr, T.rc, mir_rc l, mir_rc r]
theorem mir_mir : ∀ t : T, t.mir.mir = t
  | .nil => rfl
  | .node l r => by simp [T.mir, mir_mir l, mir_mir r]

/-! ### parents of a joined tree -/
theorem par_below {N : Int} : ∀ (s : T) (off p : Int), 0 ≤ off → (s.par off p).map (fun q => if q = -1 then N else q) = s.par off (if p = -1 then N else p)
  | .nil, _, _, _ => rfl
  | .node l r, off, p, h => by
    simp only [T.par, List.map_append, List.map_cons]
    rw [par_below l off _ h, par_below r (off + l.size + 1) _ (by omega), if_neg (by omega : ¬ off + (l.size : Int) = -1)]
theorem par_beyond {N : Int} : ∀ (s : T) (off p : Int), 0 ≤ off → (s.par off p).map (fun q => if q = -1 then N else q + N + 1) = s.par (off + N + 1) (if p = -1 then N else p + N + 1)
  | .nil, _, _, _ => rfl
  | .node l r, off, p, h => by
    simp only [T.par, List.map_append, List.map_cons]
    rw [par_beyond l off _ h, par_beyond r (off + l.size + 1) _ (by omega), if_neg (by omega : ¬ off + (l.size : Int) = -1)]
    have e1 : off + (l.size : Int) + N + 1 = off + N + 1 + l.size := by omega
    have e2 : off + (l.size : Int) + 1 + N + 1 = off + N + 1 + l.size + 1 := by omega
    rw [e1, e2]
theorem parOf_node (s u : T) : (T.node s u).parOf = s.parOf.map (fun q => if q = -1 then (s.size : Int) else q) ++ [-1] ++ u.parOf.map (fun q => if q = -1 then (s.size : Int) else q + s.size + 1) := by
  unfold T.parOf
  rw [par_below s 0 (-1) (by omega), par_beyond u 0 (-1) (by omega)]
  simp only [T.par]
  simp
theorem parOf_root (s u : T) : (T.node s u).parOf[s.size]? = some (-1) := by
  have := sub_root (t := T.node s u) .root
  simpa using this
theorem parOf_first {s u : T} {m : Nat} (h : m < s.size) : (T.node s u).parOf[m]? ≠ some (-1) := fun e => by
  rcases par_in _ _ _ _ _ e with ⟨l, r, e1, e2, _⟩ | ⟨h1, _, _⟩
  · cases e1; omega
  · omega

/-! ### runs as lists of flushes -/
theorem stk_pair : ∀ (t : T) (off j : Nat), j + 1 ≤ t.runs → (t.stk off)[t.runs - (j + 1)]? = some (off + t.start (j + 1), off + t.start j)
  | .nil, _, _, h => by simp [T.runs] at h
  | .node l r, off, j, h => by
    by_cases e : j = r.runs
    · subst e
      have e1 : (T.node l r).runs = r.runs + 1 := by simp [T.runs]; omega
      rw [e1, Nat.sub_self, ← e1, T.start_eq, T.start_node (Nat.le_refl _), T.start_eq]
      rfl
    · have h1 : j + 1 ≤ r.runs := by simp [T.runs] at h; omega
      have e1 : (T.node l r).runs - (j + 1) = (r.runs - (j + 1)) + 1 := by simp [T.runs]; omega
      rw [e1, T.start_node h1, T.start_node (by omega)]
      simp only [T.stk, List.getElem?_cons_succ]
      rw [stk_pair r (off + l.size + 1) j h1]
      congr 2 <;> omega
theorem start_anti : ∀ (t : T) (j : Nat), j + 1 ≤ t.runs → t.start (j + 1) < t.start j
  | .nil, _, h => by simp [T.runs] at h
  | .node l r, j, h => by
    by_cases e : j = r.runs
    · subst e
      have e1 : (T.node l r).runs = r.runs + 1 := by simp [T.runs]; omega
      rw [← e1, T.start_eq, T.start_node (Nat.le_refl _), T.start_eq]
      omega
    · have h1 : j + 1 ≤ r.runs := by simp [T.runs] at h; omega
      rw [T.start_node h1, T.start_node (by omega)]
      have := start_anti r j h1
      omega
/-- the flushes of [a, b) -/
def seg (a b : Nat) : List Nat := List.range' a (b - a)
theorem seg_app {a b c : Nat} (h1 : a ≤ b) (h2 : b ≤ c) : seg a b ++ seg b c = seg a c := by
  unfold seg
  have := List.range'_append_1 (s := a) (m := b - a) (n := c - b)
  rw [show a + (b - a) = b by omega, show b - a + (c - b) = c - a by omega] at this
  exact this
theorem seg_one (a : Nat) : seg a (a + 1) = [a] := by
  unfold seg
  rw [show a + 1 - a = 1 by omega]; rfl
theorem seg_nil (a : Nat) : seg a a = [] := by unfold seg; rw [Nat.sub_self]; rfl
theorem seg_len (a b : Nat) : (seg a b).length = b - a := by unfold seg; rw [List.length_range']
theorem seg_at {a b k : Nat} (h : a + k < b) : (seg a b)[k]? = some (a + k) := by
  unfold seg
  rw [List.getElem?_range' (by omega)]
  simp
theorem stk_take_succ {t : T} {j : Nat} (off : Nat) (h : j + 1 ≤ t.runs) : (t.stk off).take (t.runs - j) = (t.stk off).take (t.runs - (j + 1)) ++ [(off + t.start (j + 1), off + t.start j)] := by
  rw [show t.runs - j = (t.runs - (j + 1)) + 1 by omega, List.take_add_one, stk_pair t off j h]; rfl
/-- adjacent, from off on -/
theorem stk_starts : ∀ (t : T) (off : Nat), (t.stk off).map (·.1) = (off :: (t.stk off).map (·.2)).dropLast
  | .nil, _ => rfl
  | .node l r, off => by
    have ih := stk_starts r (off + l.size + 1)
    simp only [T.stk, List.map_cons]
    rw [ih]; rfl
theorem stk_stops : ∀ (t : T) (off : Nat), (off :: (t.stk off).map (·.2)).getLast? = some (off + t.size)
  | .nil, off => by simp [T.stk, T.size]
  | .node l r, off => by
    have ih := stk_stops r (off + l.size + 1)
    simp only [T.stk, List.map_cons, T.size]
    rw [List.getLast?_cons_cons, ih]
    congr 1; omega
theorem stk_lt : ∀ (t : T) (off : Nat) (p : Nat × Nat), p ∈ t.stk off → off ≤ p.1 ∧ p.1 < p.2 ∧ p.2 ≤ off + t.size
  | .nil, _, _, h => by simp [T.stk] at h
  | .node l r, off, p, h => by
    simp only [T.stk] at h
    rcases List.mem_cons.mp h with rfl | h
    · simp only [T.size]; omega
    · have := stk_lt r _ p h
      simp only [T.size]; omega
end MB

set_option maxHeartbeats 4000000
namespace MB
open PySem PySem.Spec PyProof.Rows L2

/-! ### great powers -/
def CPowW (i j : Int) : Prop := 0 ≤ j ∧ (Builtin.Int.intBits i : Int) * j ≤ 2 ^ 27
theorem op_powW {X : Cx} : OpR X (binaryOp .Pow) (rI CPowW fun i j => .int (i ^ j.toNat)) := opI fun _ _ _ _ _ _ _ hc q => pow_int hc.1 hc.2 q

/-! ### xs[i] op= e -/
theorem get_list {X : Cx} : PGet X (rIxL X.K) := by
  intro pins s σ H x y v u Q I rx ry h
  obtain ⟨p, xs, i, z, rfl, rfl, hq, he, q⟩ := h
  cases rx
  obtain ⟨t, rfl⟩ := ry
  obtain ⟨its, r, pl, hz⟩ := I.list hq
  obtain ⟨j, h1, h2, h3, h4, h5⟩ := atI_get he
  obtain ⟨w, ew, rw'⟩ := r.get h2
  have hl := r.length
  have hn := line63
  have fin : EP X pins σ Q w s := ⟨z, H, I, rw', q⟩
  by_cases h0 : 0 ≤ i
  · have hj : i.toNat = j := by
      rw [seqIndex_of h0 h5] at h1
      exact Option.some.inj h1
    exact getItem_listL pl.isList h0 (by omega) (by rw [hj]; exact ew) fin
  · have hj : (i + (its.toArray.size : Int)).toNat = j := by
      rw [seqIndex_neg (by omega) h4] at h1
      rw [List.size_toArray, ← hl]
      exact Option.some.inj h1
    exact wpAny_getItem_list_neg pl.isList (by omega) (by rw [List.size_toArray] <;> omega) (by omega) (by rw [hj]; simpa using ew) fin

/-! ### sum of a tuple of ints -/
theorem ints_at : ∀ {ns : List Int} {its : List Value}, Vals (ns.map V.int) its → ∀ (i : Nat) (v : Value), its[i]? = some v → ∃ t, v = .int (ns.getD i 0) t
  | [], _, .nil, i, v, h => by simp at h
  | n :: ns, u :: us, .cons r rr, 0, v, h => by
    obtain ⟨t, rfl⟩ := r
    simp at h
    exact ⟨t, by simp [h]⟩
  | n :: ns, u :: us, .cons r rr, i + 1, v, h => by
    have := ints_at rr i v (by simpa using h)
    simpa using this
theorem preSum_getD (ns : List Int) : ∀ k, k ≤ ns.length → preSum (fun i => ns.getD i 0) k = (ns.take k).sum
  | 0, _ => by simp [preSum]
  | k + 1, h => by
    have e : ns[k]? = some (ns.getD k 0) := by
      rw [List.getElem?_eq_getElem (by omega), List.getD_eq_getElem?_getD, List.getElem?_eq_getElem (by omega)]
      rfl
    rw [preSum, preSum_getD ns k (by omega), L2.sum_take e]
def rSumT (K : PySem.W.Frag) : List V → Hp → VK → Prop := fun xs H Q => ∃ (a : Addr) (ns : List Int), xs = [V.ref a] ∧ SqT K H a (ns.map V.int) ∧ Q (.int ns.sum) H
theorem cr_sumT {X : Cx} (hc : X.calm = true) : CallR X (.builtin "sum") (rSumT X.K) := by
  intro pins s σ H vs us Q I r h
  obtain ⟨a, ns, rfl, hs, q⟩ := h
  obtain ⟨its, rv, hl, _⟩ := I.tuple hs
  rw [Vals.ref1 r]
  have hT : s.heap.IsTuple a its.toArray := hl
  have hlt : a < s.heap.objs.size := by obtain ⟨_, e, _⟩ := hl; exact Heap.lt_size e
  refine PySem.call_sum_walkG (wpAny_pyIter_tuple hT ?_)
  refine ⟨s.heap.objs.size, [s.heap.objs.size, a], [s.heap.objs.size], its.toArray.size, _, _, fun i => ns.getD i 0, rfl, Walks.tuple (A := X.A.in1) (I.ok.hd hc) _ a (Nat.ne_of_lt hlt) its.toArray, ⟨⟨_, Heap.get?_push_size _ rfl, rfl, rfl⟩, hT.at fun o e => Heap.get?_push_of_some _ e⟩, fun b hb => ?_, fun i v hv => ints_at rv i v (by simpa using hv), fun h' tk t' hk => ?_⟩
  · show b < (s.heap.push _).objs.size
    rw [Heap.size_push]
    have e : b = s.heap.objs.size ∨ b = a := by simpa using hb
    rcases e with e | e
    · rw [e]; exact Nat.lt_succ_self _
    · rw [e]; exact Nat.lt_succ_of_lt hlt
  · have el : its.toArray.size = ns.length := by rw [List.size_toArray, ← rv.length, List.length_map]
    rw [el, preSum_getD ns _ (Nat.le_refl _), List.take_length]
    refine ⟨.int ns.sum, H, I.kept fun b o e => hk b o ?_ (Heap.get?_push_of_some _ e), ⟨_, rfl⟩, q⟩
    have := Heap.lt_size e
    simp only [List.mem_singleton]
    exact Nat.ne_of_lt this

/-! ### enumerate(tuple) -/
set_option maxHeartbeats 4000000 in
theorem meets_enumerate_newT (l : Addr) (items : Array Value) (n : Nat) (dct : Option Addr) (sl : Array (Option Value)) :
    Meets (Builtin.«enumerate.__new__» ⟨[.type "enumerate", .ref l], []⟩) (fun _ R s => s.heap.get? l = some { cls := .type "tuple", dict := dct, data := .seq items n, slots := sl } ∧
      R (.ok (.ret (.ref (s.heap.push { cls := .type "tuple_iterator", data := .fields #[.ref l, .int 0 0] }).objs.size)))
        { s with heap := (s.heap.push { cls := .type "tuple_iterator", data := .fields #[.ref l, .int 0 0] }).push { cls := .type "enumerate", data := .fields #[.none, .bool false, .ref s.heap.objs.size, rawInt 0, .none, .none] } }) :=
  .of_wp fun prog w A R s h => by
    obtain ⟨hp, g, d, tk, os⟩ := s; obtain ⟨hl, h⟩ := h
    have hsub := sub_enumerate
    have hL : Heap.IsTuple (Shared.heap ⟨hp, g, d, tk, os⟩) l items := ⟨_, hl, rfl, n, rfl⟩
    wp_walk using AutoSeq1.wpAny_loadPart' hl
    refine wpAny_stack_any fun st => wpAny_pure ?_
    split
    · rename_i c _ _ _ _ _
      cases (c == Value.type "enumerate")
      · wp_walk using AutoSeq1.wpAny_loadPart' hl, wpAny_pyIter_tuple hL
        exact ⟨_, rfl, h⟩
      · wp_walk using AutoSeq1.wpAny_loadPart' hl, wpAny_pyIter_tuple hL
        exact ⟨_, rfl, h⟩
    · wp_walk using AutoSeq1.wpAny_loadPart' hl, wpAny_pyIter_tuple hL
      exact ⟨_, rfl, h⟩
section
variable {prog : Program} {w : World} {A : Around} {E : Value → Shared → Prop} {s : Shared}
theorem call_enumerate_tuple {l : Addr} {items : Array Value} {Q : Value → Shared → Prop} (hL : s.heap.IsTuple l items)
    (h : ∀ h', IsEnum h' (s.heap.objs.size + 1) s.heap.objs.size 0 .none → h'.IsTupleIter s.heap.objs.size l 0 → h'.objs.size = s.heap.objs.size + 2 →
      (∀ b o, s.heap.get? b = some o → h'.get? b = some o) → Q (.ref (s.heap.objs.size + 1)) { s with heap := h' }) :
    wpAny (model prog w) A (call (.type "enumerate") [.ref l]) Q E s := by
  obtain ⟨⟨c, dct, dt, sl⟩, hl, hc, n, hd⟩ := hL
  replace hc : c = .type "tuple" := hc
  replace hd : dt = .seq items n := hd
  subst hc hd
  refine callType_new F.called_enumerate (by decide) (F.typeCall_enumerate_1 _) (F.newCall_enumerate_1 _) (fun obj => F.args_object_init_2 obj _) F.entry_enumerate_new
    (meets_enumerate_newT l items n dct sl) ⟨hl, ?_⟩
  have hz : (s.heap.push { cls := .type "tuple_iterator", data := .fields #[.ref l, .int 0 0] }).objs.size = s.heap.objs.size + 1 := Heap.size_push ..
  show _ ∧ _
  rw [hz]
  have he : IsEnum ((s.heap.push { cls := .type "tuple_iterator", data := .fields #[.ref l, .int 0 0] }).push
      { cls := .type "enumerate", data := .fields #[.none, .bool false, .ref s.heap.objs.size, rawInt 0, .none, .none] }) (s.heap.objs.size + 1) s.heap.objs.size 0 .none := by
    have := Heap.get?_push_size (s.heap.push { cls := .type "tuple_iterator", data := .fields #[.ref l, .int 0 0] })
      (o := { cls := .type "enumerate", data := .fields #[.none, .bool false, .ref s.heap.objs.size, rawInt 0, .none, .none] }) rfl
    rw [hz] at this; exact this
  refine ⟨⟨_, he, rfl⟩, h _ he ⟨_, Heap.get?_push_of_some _ (Heap.get?_push_size _ rfl), rfl, rfl⟩ (by rw [Heap.size_push, hz]) fun b o x => Heap.get?_push_of_some _ (Heap.get?_push_of_some _ x)⟩
end
def IteT (K : PySem.W.Frag) (a : Addr) : It :=
  ⟨fun i H => ∃ (xs : List V) (x : V), SqT K H a xs ∧ xs[i]? = some x, fun i H v H' => ∃ T x, v = .ref T ∧ H T = none ∧ H' = upd H T (.tup [.int (i : Nat), x]) ∧ ∀ xs, SqT K H a xs → xs[i]? = some x, fun i H => ∃ xs : List V, SqT K H a xs ∧ xs.length = i⟩
theorem tup_ne {h : Heap} {a it : Addr} {items : Array Value} {i : Nat} (h1 : h.IsTuple a items) (h2 : h.IsTupleIter it a i) : a ≠ it := fun e => by
  obtain ⟨o, ho, hc, n, hd⟩ := h1
  obtain ⟨o', ho', hc', hd'⟩ := h2
  rw [e] at ho
  rw [ho] at ho'
  cases ho'
  rw [hd] at hd'
  cases hd'
theorem turn_enumT {P : Program} {w : World} {K : PySem.W.Frag} {elts : List Expr} {kk : Nat} {tpos : Pos} (a e it : Addr) (hae : a ≠ e) :
    Turn P w K (.Tuple elts kk tpos) (IteT K a) [e, it] e (fun i h => (∃ old, IsEnum h e it ((i : Nat) : Int) old) ∧ h.IsTupleIter it a i ∧ e ≠ it) where
  mem := by simp
  obj := fun i h st b hb => by
    obtain ⟨⟨old, he⟩, ⟨o, ho, hc, hd⟩, _⟩ := st
    have e' : b = e ∨ b = it := by simpa using hb
    rcases e' with z | z
    · rw [z]; exact ⟨_, he, fun v q => nomatch q⟩
    · rw [z]; exact ⟨o, ho, fun v q => by rw [hd] at q; cases q⟩
  keep := fun i h h' st k => let ⟨⟨old, he⟩, hi, hne⟩ := st; ⟨⟨old, k e (by simp) _ he⟩, hi.at fun o q => k it (by simp) o q, hne⟩
  item := by
    intro X hP hw hK hc i pins s σ H E I hf st hg
    subst hP hw hK
    obtain ⟨⟨old, he⟩, hit, hne⟩ := st
    obtain ⟨xs, x, hq, hx⟩ := hg
    obtain ⟨its, rv, p, hz⟩ := I.tuple hq
    have p : s.heap.IsTuple a its.toArray := p
    have hat : a ≠ it := tup_ne p hit
    have hel : e < s.heap.objs.size := Heap.lt_size he
    have hil : it < s.heap.objs.size := by obtain ⟨_, q, _⟩ := hit; exact Heap.lt_size q
    have hlen : i < its.toArray.size := by
      rw [List.size_toArray, ← rv.length]; exact (List.getElem?_eq_some_iff.mp hx).1
    refine wpAny_pyNext_enum_itemD (Draws.tuple (prog := X.prog) (w := X.w) (A := X.A.in1) (I.ok.hd hc) it a hat its.toArray) he ⟨hit, p⟩ hlen hne (by simp; exact ⟨hne, fun z => hae z.symm⟩) fun u h' tk hu ho hit' hT hsz hk => ?_
    obtain ⟨u', hu', ru'⟩ := rv.get hx
    have eu : u = u' := by
      have h1 : its[i]? = some u := by simpa using hu
      rw [h1] at hu'; exact Option.some.inj hu'
    subst eu
    refine ⟨_, rfl, wpAny_letOwnedTupleGo_enum (s := { s with heap := h', toks := tk + 1 }) ho fun h'' he' sb => ?_⟩
    have hT2 : h''.get? s.heap.objs.size = some { cls := .type "tuple", data := .seq #[.int i tk, u] } := (sb.2 _ (Nat.ne_of_gt hel)).trans hT
    have new : ObjOk X.prog X.w (upd H s.heap.objs.size (.tup [.int (i : Nat), x])) h'' s.heap.objs.size (.tup [.int (i : Nat), x]) :=
      ⟨by show 2 ≤ sizeLine; decide, [.int i tk, u], .cons ⟨_, rfl⟩ (.cons ru' .nil), ⟨_, hT2, rfl, _, rfl⟩⟩
    have I1 : Inv X pins σ (upd H s.heap.objs.size (.tup [.int (i : Nat), x])) { s with heap := h'', toks := tk + 1 } :=
      I.turnedNew (ch := [e, it]) (fun b ob hb q => (sb.2 b (fun z => hb (by simp [z]))).trans (hk b ob (fun z => hb (by simp [z])) (fun z => hb (by simp [z])) q)) hf (Nat.le_refl _) new
    refine ⟨.ref s.heap.objs.size, _, I1, rfl, ⟨_, x, rfl, I.hok.fresh (Nat.le_refl _), rfl, fun ys hy => by rw [I.tuple_inj hy hq]; exact hx⟩, ⟨⟨u, ?_⟩, hit'.1.at fun o q => (sb.2 it (Ne.symm hne)).trans q, hne⟩, fun b hb => ?_⟩
    · have e1 : ((i + 1 : Nat) : Int) = (i : Int) + 1 := by omega
      rw [e1]; exact he'
    · have hb' : b < s.heap.objs.size := by
        have e' : b = e ∨ b = it := by simpa using hb
        rcases e' with z | z
        · rw [z]; exact hel
        · rw [z]; exact hil
      rw [upd_ne (Nat.ne_of_lt hb')]
      exact (hf b hb).1
  done := by
    intro X hP hw hK hc i pins s σ H E I hf st hg
    subst hP hw hK
    obtain ⟨⟨old, he⟩, hit, hne⟩ := st
    obtain ⟨xs, hq, hx⟩ := hg
    obtain ⟨its, rv, p, hz⟩ := I.tuple hq
    have p : s.heap.IsTuple a its.toArray := p
    have hat : a ≠ it := tup_ne p hit
    obtain ⟨f0, f1, f2, f3, f4, f5⟩ := hf it (by simp)
    have hlen : its.toArray.size = i := by rw [List.size_toArray, ← rv.length, hx]
    refine wpAny_pyNext_enum_endD (Draws.tuple (prog := X.prog) (w := X.w) (A := X.A.in1) (I.ok.hd hc) it a hat its.toArray) he ?_ fun h' eb => ⟨rfl, I.turned (t' := s.toks) (fun b o hb q => eb b o hb q) f0 f1 f3 f4 f5⟩
    rw [hlen]
    exact ⟨hit, p⟩
  self := fun A i s Q E st h => let ⟨⟨_, he⟩, _⟩ := st; wpAny_pyIter_enum he h
def iEnumT (K : PySem.W.Frag) (ta : TA) : TI := fun σ H R => ta σ H fun vs H1 => ∃ a xs, vs = [.ref a] ∧ SqT K H1 a xs ∧ R (IteT K a) H1
theorem pi_enumT {X : Cx} {e : Expr} {ta : TA} {p pos tpos : Pos} {elts : List Expr} {kk : Nat} (hg : Gl X "enumerate") (hm : X.mg "enumerate" = none) (ha : PA X [e] ta) (hs : starEach [e] X.env = [(false, eval e X.env)] := by rfl) :
    PI X (.Tuple elts kk tpos) (.Call (.Name "enumerate" p) [e] [] pos) (iEnumT X.K ta) := by
  refine ⟨fun pins s σ H R I h => ?_⟩
  refine Call_ (ld_blt I hg hm boot_enumerate (PyProof.Rows.callWith_type1 (thn (ha.run pos pins s σ H _ I h) fun us s1 ⟨vs, H1, I1, r1, q1⟩ => ?_) hs rfl))
  obtain ⟨a, xs, ex, hq, q⟩ := q1
  subst ex
  cases r1 with
  | cons r rr =>
    cases rr
    cases r
    obtain ⟨its, rv, p', hz⟩ := I1.tuple hq
    have hlt : a < s1.heap.objs.size := by obtain ⟨_, e, _⟩ := p'; exact Heap.lt_size e
    refine call_enumerate_tuple p' fun h' he hit hsz hk => wpAny_pyIter_enum he ?_
    have I2 : Inv X pins σ H1 { s1 with heap := h' } := I1.kept (t' := s1.toks) hk
    refine ⟨s1.heap.objs.size + 1, [s1.heap.objs.size + 1, s1.heap.objs.size], _, _, H1, rfl, I2, turn_enumT a (s1.heap.objs.size + 1) s1.heap.objs.size (Nat.ne_of_lt (Nat.lt_succ_of_lt hlt)), ⟨⟨.none, he⟩, hit, Nat.succ_ne_self _⟩, fun b hb => ?_, q⟩
    have e' : b = s1.heap.objs.size + 1 ∨ b = s1.heap.objs.size := by simpa using hb
    have hle : s1.heap.objs.size ≤ b := by
      rcases e' with z | z
      · rw [z]; exact Nat.le_add_right _ _
      · rw [z]; exact Nat.le_refl _
    exact I1.fpOk hle (I1.hok.fresh hle)
theorem walk_enumT {K : PySem.W.Frag} {a : Addr} {xs : List V} : Walk (IteT K a) xs.length (fun H => SqT K H a xs) (YPair (fun i => some (.int (i : Nat))) (fun i => xs[i]?)) := by
  refine ⟨fun i H hi hG => ⟨xs, xs[i], hG, List.getElem?_eq_getElem hi⟩, fun H hG => ⟨xs, hG, rfl⟩, fun i H x H' hi hG y => ?_⟩
  obtain ⟨T, x, e1, e2, e3, e4⟩ := y
  exact ⟨T, _, x, e1, e2, e3, rfl, e4 xs hG⟩

/-! ### tuple.index of an int -/
theorem flat_ints (ns : List Int) : (ns.map V.int).all flatV = true := by
  rw [List.all_map]
  exact List.all_eq_true.mpr fun _ _ => rfl
theorem mt_tindex {X : Cx} : MtR X "tuple.index" (fun x xs H Q => ∃ p, ∃ ys : List Int, ∃ z j, x = .ref p ∧ xs = [.int z] ∧ SqT X.K H p (ys.map V.int) ∧ ys[j]? = some z ∧ (∀ m, m < j → ys[m]? ≠ some z) ∧ Q (.int (j : Nat)) H) := by
  intro pins s σ H x xs v us Q I rx rs h
  obtain ⟨p, ys, z, j, rfl, rfl, hq, hy, hno, q⟩ := h
  cases rx
  obtain ⟨u, rfl, t, rfl⟩ := vals1 rs
  obtain ⟨its, r, pl, hz⟩ := I.tuple hq
  obtain ⟨⟨cls, dd, dt, sl⟩, ho, hc, n, hd⟩ := pl
  simp only at hc hd
  subst hc
  subst hd
  have hl : its.toArray.size = ys.length := by rw [List.size_toArray, ← r.length, List.length_map]
  have hj : j < its.toArray.size := by rw [hl]; exact (List.getElem?_eq_some_iff.mp hy).1
  have at' : ∀ (m : Nat) (hm : m < its.toArray.size), ∃ y t', ys[m]? = some y ∧ its.toArray[m] = Value.int y t' := fun m hm => by
    have hm' : m < ys.length := by rw [← hl]; exact hm
    obtain ⟨w, hw, t', hw'⟩ := r.get (i := m) (x := .int ys[m]) (by simp [hm'])
    refine ⟨ys[m], t', List.getElem?_eq_getElem hm', ?_⟩
    have e := (List.getElem?_eq_some_iff.mp hw).2
    rw [← hw', ← e]
    simp
  refine call_meets PySem.F.slot_tuple_index ⟨_, ho, rfl⟩ PySem.F.entry_tuple_index (PySem.F.args_tuple_index_2 _ _) (TI.tuple_indexAt p its.toArray n dd sl (.int z t) (eqU (.int z)) j hj ?_ ?_)
    ⟨ho, fun w hw => mem_eqAt (x := .int z) ⟨t, rfl⟩ rfl r (flat_ints ys) w (by simpa using hw), ⟨.int (j : Nat), H, I.tok _, ⟨_, rfl⟩, q⟩⟩
  · obtain ⟨y, t', h1, h2⟩ := at' j hj
    rw [hy] at h1
    cases h1
    rw [h2]
    show (z == z) = true
    exact beq_self_eq_true z
  · intro m hm hmj
    obtain ⟨y, t', h1, h2⟩ := at' m hm
    rw [h2]
    show (y == z) = false
    exact beq_eq_false_iff_ne.mpr fun e => hno m hmj (e ▸ h1)

/-! ### rules by the written part K itself (for a comprehension's block) -/
def rLen (K : PySem.W.Frag) : List V → Hp → VK → Prop := fun xs H Q => ∃ p ys, xs = [.ref p] ∧ (SqL K H p ys ∨ SqT K H p ys) ∧ Q (.int ys.length) H
def rTupOf (K : PySem.W.Frag) : List V → Hp → VK → Prop := fun xs H Q => ∃ p ys, xs = [.ref p] ∧ ((SqL K H p ys ∧ ∀ l, H l = none → Q (.ref l) (upd H l (.tup ys))) ∨ (SqT K H p ys ∧ Q (.ref p) H))
def rListOf (K : PySem.W.Frag) : List V → Hp → VK → Prop := fun xs H Q => ∃ p ys, xs = [.ref p] ∧ (SqL K H p ys ∨ SqT K H p ys) ∧ ∀ l, H l = none → Q (.ref l) (upd H l (.lst ys))
section
variable {X : Cx} {K : PySem.W.Frag}
theorem k_len (hK : X.K = K) : CallR X (.builtin "len") (rLen K) := by subst hK; exact call_len_seq
theorem k_tupOf (hK : X.K = K) : CallR X (.type "tuple") (rTupOf K) := by subst hK; exact call_tuple_of
theorem k_listOf (hK : X.K = K) : CallR X (.type "list") (rListOf K) := by subst hK; exact call_list_of
theorem k_isi (hK : X.K = K) : CallR X (.builtin "isinstance") (rIsi K) := by subst hK; exact call_isi
theorem k_ixT (hK : X.K = K) : IxR X (rIxT K) := by subst hK; exact ix_tup
theorem k_ixL (hK : X.K = K) : IxR X (rIxL K) := by subst hK; exact ix_list
theorem k_slT (hK : X.K = K) : SlR X (rSlA K) := by subst hK; exact sl_tupA
theorem k_catT (hK : X.K = K) : OpR X (binaryOp .Add) (rCatA K) := by subst hK; exact op_catA
theorem k_sumT (hK : X.K = K) (hc : X.calm = true) : CallR X (.builtin "sum") (rSumT K) := by subst hK; exact cr_sumT hc
end

/-! ### a statement, then the rest, with a word between them -/
def tCut (t u : TS) : TS := fun D σ H => ∃ Mid : L2.St → Hp → Prop, t { D with nx := Mid } σ H ∧ ∀ σ' H', Mid σ' H' → u D σ' H'
theorem pss_cut {X : Cx} {st : Stmt} {rest : List Stmt} {t u : TS} (h1 : PS X st t) (h2 : PSs X rest u) : PSs X (st :: rest) (tCut t u) := by
  refine ⟨fun pins s σ H D I h => ?_⟩
  obtain ⟨Mid, hm, hu⟩ := h
  refine wpAny_execs_cons (thn (h1.run pins s σ H { D with nx := Mid } I hm) fun f s1 q => ?_)
  cases f with
  | next =>
    obtain ⟨σ', H', I', q⟩ := q
    exact h2.run pins s1 σ' H' D I' (hu σ' H' q)
  | ret v => exact q
  | brk => exact q
  | cont => exact q

/-! ### a tuple that is known to be plain; its method index -/
def rTupOfZ (K : PySem.W.Frag) : List V → Hp → VK → Prop := fun xs H Q => ∃ p ys, xs = [.ref p] ∧ SqL K H p ys ∧ ∀ l o, H l = none → o.dict = none → Q (.ref l) (upd H l (.frz o (.tup ys)))
theorem k_tupOfZ {X : Cx} {K : PySem.W.Frag} (hK : X.K = K) : CallR X (.type "tuple") (rTupOfZ K) := by
  subst hK
  intro pins s σ H xs us Q I r h
  obtain ⟨p, ys, rfl, hq, q⟩ := h
  obtain ⟨u, rfl, rx⟩ := vals1 r
  cases rx
  obtain ⟨its, r', pl, hz⟩ := I.list hq
  have hlen := r'.length
  refine call_tuple_list pl.isList (fun h' kp => ?_) (by simp only [List.size_toArray] <;> omega)
  have I1 : Inv X pins σ H { s with heap := h' } := I.kept (t' := s.toks) kp
  have I2 : Inv X pins σ (upd H h'.objs.size (.frz { cls := .type "tuple", data := .seq its.toArray } (.tup ys))) { s with heap := h'.push { cls := .type "tuple", data := .seq its.toArray } } :=
    I1.laid (t' := s.toks) (fun b o e => Heap.get?_push_of_some _ e) (Nat.le_refl _) (show ObjOk X.prog X.w _ _ _ (.frz _ (.tup ys)) from ⟨Heap.get?_push_size _ rfl, hz, its, r', IsTup.new _ _⟩)
  exact ⟨.ref h'.objs.size, _, I2, rfl, q _ _ (I1.hok.fresh (Nat.le_refl _)) rfl⟩
def tTM (r : V → List V → Hp → VK → Prop) (to : TE) (t : TA) : TE := fun σ H Q => to σ H fun x H1 => (∃ a ob xs, x = .ref a ∧ H1 a = some (.frz ob (.tup xs)) ∧ ob.dict = none) ∧ t σ H1 fun xs H2 => r x xs H2 Q
theorem pe_tm {X : Cx} {o e : Expr} {es : List Expr} {to : TE} {t : TA} {name : Str} {apos cpos : Pos} {id : String} {r : V → List V → Hp → VK → Prop} (slot : Slot "tuple" name id) (hty : typeOf (.builtin id) = pure (.type "method_descriptor")) (hm : MtR X id r) (ho : PE X o to) (ha : PA X (e :: es) t)
    (hbase : attributeBase o name X.env (eval o X.env) = eval o X.env := by rfl)
    (hfew : ((backTo cpos (starEach (e :: es) X.env)).all (fun x => !x.1) && (backToKw cpos (keywordEach [] X.env)).all (fun x => x.1.isSome)
      && decide ((e :: es).length + ([] : List Keyword).length + (if ([] : List Keyword).isEmpty then 0 else 1) < 30)) = true := by rfl)
    (hline : (apos.endLine == cpos.line) = true := by rfl) (hs : starEach (e :: es) X.env = (false, eval e X.env) :: starEach es X.env := by rfl) (hplain : (backTo cpos (starEach es X.env)).any (·.1) = false := by rfl) :
    PE X (.Call (.Attribute o name apos) (e :: es) [] cpos) (tTM r to t) := by
  refine ⟨fun pins s σ H Q I h => ?_⟩
  refine wpAny_Call_method_late hbase hfew hline rfl (thn (ho.run pins s σ H _ I h) fun v s1 ⟨x, H1, I1, r1, ty, q1⟩ => ?_)
  obtain ⟨a, ob, xs, rfl, hf, hd⟩ := ty
  cases r1
  obtain ⟨hg, hz, its, rv, o', ho', hc, _⟩ := (show ObjOk X.prog X.w H1 s1.heap a (.frz ob (.tup xs)) from I1.hok a _ hf)
  have hc' : ob.cls = .type "tuple" := by rw [hg] at ho'; cases ho'; exact hc
  refine ⟨"tuple", id, PySem.F.plainAttrs_tuple, slot, hty, ⟨ob, hg, hc'⟩, fun b e => by cases e; exact ⟨ob, hg, hd⟩, ?_⟩
  have hA := ha.run cpos pins s1 σ H1 _ I1 q1
  rw [hs] at hA ⊢
  refine Calls.callWith_builtin (by show (false || (backTo cpos (starEach es X.env)).any (·.1)) = false; rw [hplain] <;> rfl) (Calls.evalArgs_plain ?_)
  exact thn hA fun us s2 ⟨vs, H2, I2, r2, q2⟩ => hm pins s2 σ H2 (.ref a) vs (.ref a) us Q I2 rfl r2 q2

/-! ### places in the text -/
def xAsg : Stmt → Expr
  | .Assign _ e _ => e
  | _ => .Constant .none 0 ⟨0, 0, 0, 0⟩
def xArg (i : Nat) : Expr → Expr
  | .Call _ as _ _ => as.getD i (.Constant .none 0 ⟨0, 0, 0, 0⟩)
  | _ => .Constant .none 0 ⟨0, 0, 0, 0⟩
def xLcSc : Expr → Scope
  | .ListComp _ _ sc _ => sc
  | _ => { kind := .function, names := [], isGenerator := false, isCoroutine := false }
/-! ### readings are monotone -/
theorem mono_pair {K : PySem.W.Frag} {n i j : Nat} (x : V) (σ' : L2.St) (H' : Hp) (Q Q' : L2.St → Hp → Prop) (h : ∀ a b, Q a b → Q' a b) (e : gTup K n (gCons (gName i) (gCons (gName j) gNil)) x σ' H' Q) : gTup K n (gCons (gName i) (gCons (gName j) gNil)) x σ' H' Q' := by
  obtain ⟨a, xs, e1, e2, e3, v, r, e4, v', r', e5, e6, q⟩ := e
  exact ⟨a, xs, e1, e2, e3, v, r, e4, v', r', e5, e6, h _ _ q⟩

section
variable {X : Cx} {K : PySem.W.Frag}
theorem k_piL {tg l : Expr} {tl : TE} (hK : X.K = K) (hl : PE X l tl) : PI X tg l (iList K tl) := by subst hK; exact pi_list hl
theorem k_piT {tg l : Expr} {tl : TE} (hK : X.K = K) (hl : PE X l tl) : PI X tg l (iTup K tl) := by subst hK; exact pi_tup hl
theorem k_pgT2 {x y : Str} {px py : Pos} {k : Nat} {pos : Pos} {t1 t2 : TG} (hK : X.K = K) (hc : X.calm = true) (h1 : PG X (.Name x px) t1) (h2 : PG X (.Name y py) t2) : PG X (.Tuple [.Name x px, .Name y py] k pos) (gTup K 2 (gCons t1 (gCons t2 gNil))) := by
  subst hK
  exact pg_tup hc (pgs_cons h1 (pgs_cons h2 pgs_nil))
end
end MB

set_option maxHeartbeats 4000000
namespace MB
open PySem PySem.Spec PyProof.Rows L2

/-! ### heaps -/
theorem same_upd {H : Hp} {p : Addr} {o : HO} (h : H p = none) : Same H (upd H p o) := fun b x e => by
  rw [upd_ne (ne_of_none e h)]
  exact e
/-- an object that was not tracked may change -/
theorem Same.mut {H H' : Hp} {p : Addr} {o : HO} (s : Same H H') (h : H p = none) : Same H (upd H' p o) := fun b x e => by
  rw [upd_ne (ne_of_none e h)]
  exact s _ _ e
theorem Same.tup {K : PySem.W.Frag} {H H' : Hp} {a : Addr} {xs : List V} (e : Same H H') (h : SqT K H a xs) : SqT K H' a xs := by
  rcases h with (h | ⟨o, h⟩) | h
  · exact .inl (.inl (e _ _ h))
  · exact .inl (.inr ⟨o, e _ _ h⟩)
  · exact .inr h
theorem Same.tupF {K : PySem.W.Frag} {H H' : Hp} {a : Addr} {o : Obj} {xs : List V} (e : Same H H') (h : H a = some (.frz o (.tup xs))) : SqT K H' a xs := .inl (.inr ⟨o, e _ _ h⟩)
theorem Dp.same {K : PySem.W.Frag} {H H' : Hp} (e : Same H H') : ∀ {v : V} {d : PyData}, Dp K H v d → Dp K H' v d := by
  intro v d h
  refine Dp.rec (motive_1 := fun v d _ => Dp K H' v d) (motive_2 := fun vs ds _ => DpAll K H' vs ds) ?_ ?_ ?_ ?_ ?_ ?_ ?_ ?_ h
  · exact .non
  · intro b; exact .bl b
  · intro i; exact .int i
  · intro x; exact .str x
  · intro a xs ds hs _ ih; exact .lst (e.seq hs) ih
  · intro a xs ds hs _ ih; exact .tup (Same.tup e hs) ih
  · exact .nil
  · intro v vs d ds _ _ h1 h2; exact .cons h1 h2
theorem DpAll.get {K : PySem.W.Frag} {H : Hp} : ∀ {vs : List V} {ds : List PyData}, DpAll K H vs ds → ∀ {i : Nat} {d : PyData}, ds[i]? = some d → ∃ v, vs[i]? = some v ∧ Dp K H v d
  | _, _, .nil, i, d, h => by simp at h
  | _, _, .cons a b, 0, d, h => by
    simp at h; subst h
    exact ⟨_, rfl, a⟩
  | _, _, .cons a b, i + 1, d, h => by
    obtain ⟨v, h1, h2⟩ := DpAll.get b (i := i) (d := d) (by simpa using h)
    exact ⟨v, by simpa using h1, h2⟩
theorem DpAll.len {K : PySem.W.Frag} {H : Hp} : ∀ {vs : List V} {ds : List PyData}, DpAll K H vs ds → vs.length = ds.length
  | _, _, .nil => rfl
  | _, _, .cons a b => by simp [DpAll.len b]
theorem DpAll.take {K : PySem.W.Frag} {H : Hp} : ∀ {vs : List V} {ds : List PyData} (n : Nat), DpAll K H vs ds → DpAll K H (vs.take n) (ds.take n)
  | _, _, 0, _ => .nil
  | _, _, _ + 1, .nil => .nil
  | _, _, n + 1, .cons a b => .cons a (DpAll.take n b)
theorem DpAll.append {K : PySem.W.Frag} {H : Hp} : ∀ {vs ws : List V} {ds es : List PyData}, DpAll K H vs ds → DpAll K H ws es → DpAll K H (vs ++ ws) (ds ++ es)
  | _, _, _, _, .nil, s => s
  | _, _, _, _, .cons a b, s => .cons a (DpAll.append b s)
theorem DpAll.same {K : PySem.W.Frag} {H H' : Hp} (e : Same H H') : ∀ {vs : List V} {ds : List PyData}, DpAll K H vs ds → DpAll K H' vs ds
  | _, _, .nil => .nil
  | _, _, .cons a b => .cons (Dp.same e a) (DpAll.same e b)
theorem dp_ints {K : PySem.W.Frag} {H : Hp} : ∀ ns : List Int, DpAll K H (ns.map V.int) (ns.map PyData.int)
  | [] => .nil
  | n :: ns => .cons (.int n) (dp_ints ns)
theorem ty_tup {K : PySem.W.Frag} {H : Hp} {a : Addr} {xs : List V} (h : SqT K H a xs) : TyX K H (.ref a) (.type "tuple") := by
  rcases h with (h | ⟨o, h⟩) | ⟨o, its, n, h, hc, _⟩
  · exact .base (.tup h)
  · exact .fTuple h
  · exact .kTuple h hc

/-! ### lists of numbers -/
def vi (p : List Nat) : List V := p.map fun (m : Nat) => V.int (m : Int)
def ci (p : List Nat) : List Int := p.map fun (m : Nat) => (m : Int)
theorem vi_ci (p : List Nat) : vi p = (ci p).map V.int := by simp [vi, ci]
theorem vi_len (p : List Nat) : (vi p).length = p.length := by simp [vi]
theorem vi_get {p : List Nat} {i m : Nat} (h : p[i]? = some m) : (vi p)[i]? = some (.int (m : Int)) := by simp [vi, h]
theorem vi_app (p q : List Nat) : vi (p ++ q) = vi p ++ vi q := by simp [vi]
theorem at_vi {p : List Nat} {i m : Nat} (h : p[i]? = some m) : atI (vi p) (i : Int) = some (.int (m : Int)) := atI_nat (vi_get h)
theorem sz60 {n : Nat} (h : n ≤ 100000) : n ≤ sizeLine := Nat.le_trans h (by decide)
theorem sz61 {n : Nat} (h : n ≤ 100000) : n < sizeLine := Nat.lt_of_le_of_lt h (by decide)
theorem decT {c : Prop} [Decidable c] (h : c) {A B : Prop} (a : A) : if decide c = true then A else B := by
  rw [if_pos (decide_eq_true h)]; exact a
theorem decF {c : Prop} [Decidable c] (h : ¬ c) {A B : Prop} (b : B) : if decide c = true then A else B := by
  rw [if_neg (by simp [h])]; exact b

/-! ### data of tuples: no list within -/
inductive Tf : PyData → Prop
  | non : Tf .none
  | bl (b : Bool) : Tf (.bool b)
  | int (i : Int) : Tf (.int i)
  | str (x : Str) : Tf (.str x)
  | tup {ds : List PyData} : (∀ d, d ∈ ds → Tf d) → Tf (.tuple ds)
theorem Tf.items {ds : List PyData} (h : Tf (.tuple ds)) : ∀ d, d ∈ ds → Tf d := by
  cases h with
  | tup h => exact h
theorem tf_ints (ns : List Int) : ∀ d, d ∈ ns.map PyData.int → Tf d := fun d h => by
  obtain ⟨i, _, rfl⟩ := List.mem_map.mp h
  exact .int i
/-- all tuples stay -/
def Keep (K : PySem.W.Frag) (H H' : Hp) : Prop := ∀ a xs, SqT K H a xs → SqT K H' a xs
theorem Keep.of {K : PySem.W.Frag} {H H' : Hp} (s : Same H H') : Keep K H H' := fun _ _ h => Same.tup s h
theorem Keep.trans {K : PySem.W.Frag} {H H1 H2 : Hp} (a : Keep K H H1) (b : Keep K H1 H2) : Keep K H H2 := fun _ _ h => b _ _ (a _ _ h)
theorem Keep.refl {K : PySem.W.Frag} {H : Hp} : Keep K H H := fun _ _ h => h
/-- all but the list at l stay -/
def But (l : Addr) (H H' : Hp) : Prop := ∀ b o, b ≠ l → H b = some o → H' b = some o
theorem But.refl {l : Addr} {H : Hp} : But l H H := fun _ _ _ h => h
theorem But.trans {l : Addr} {H H1 H2 : Hp} (a : But l H H1) (b : But l H1 H2) : But l H H2 := fun c o n h => b c o n (a c o n h)
theorem But.of {l : Addr} {H H' : Hp} (s : Same H H') : But l H H' := fun c o _ h => s c o h
theorem But.upd {l : Addr} {H : Hp} {o : HO} : But l H (L2.upd H l o) := fun c u n h => by rw [upd_ne n]; exact h
theorem But.keep {K : PySem.W.Frag} {l : Addr} {H H' : Hp} {ys : List V} (s : But l H H') (hl : H l = some (.lst ys)) : Keep K H H' := fun a xs h => by
  rcases h with (h | ⟨o, h⟩) | h
  · exact .inl (.inl (s _ _ (fun e => by rw [e, hl] at h; cases h) h))
  · exact .inl (.inr ⟨o, s _ _ (fun e => by rw [e, hl] at h; cases h) h⟩)
  · exact .inr h
theorem But.same {l : Addr} {H0 H H' : Hp} (s : Same H0 H) (b : But l H H') (n : H0 l = none) : Same H0 H' := fun c o e => b c o (ne_of_none e n) (s c o e)
theorem Dp.keep {K : PySem.W.Frag} {H H' : Hp} (e : Keep K H H') : ∀ {v : V} {d : PyData}, Tf d → Dp K H v d → Dp K H' v d := by
  intro v d t h
  refine Dp.rec (motive_1 := fun v d _ => Tf d → Dp K H' v d) (motive_2 := fun vs ds _ => (∀ d, d ∈ ds → Tf d) → DpAll K H' vs ds) ?_ ?_ ?_ ?_ ?_ ?_ ?_ ?_ h t
  · intro _; exact .non
  · intro b _; exact .bl b
  · intro i _; exact .int i
  · intro x _; exact .str x
  · intro a xs ds hs _ ih t; cases t
  · intro a xs ds hs _ ih t; exact .tup (e _ _ hs) (ih t.items)
  · intro _; exact .nil
  · intro v vs d ds _ _ h1 h2 t; exact .cons (h1 (t _ (List.mem_cons_self ..))) (h2 fun d hd => t d (List.mem_cons_of_mem _ hd))
theorem DpAll.keep {K : PySem.W.Frag} {H H' : Hp} (e : Keep K H H') : ∀ {vs : List V} {ds : List PyData}, (∀ d, d ∈ ds → Tf d) → DpAll K H vs ds → DpAll K H' vs ds
  | _, _, _, .nil => .nil
  | _, _, t, .cons a b => .cons (Dp.keep e (t _ (List.mem_cons_self ..)) a) (DpAll.keep e (fun d hd => t d (List.mem_cons_of_mem _ hd)) b)
theorem dp_ints_inv {K : PySem.W.Frag} {H : Hp} : ∀ {ns : List Int} {vs : List V}, DpAll K H vs (ns.map PyData.int) → vs = ns.map V.int
  | [], _, .nil => rfl
  | n :: ns, _, .cons a b => by
    cases a
    rw [dp_ints_inv b]
    rfl
theorem Dp.tupInv {K : PySem.W.Frag} {H : Hp} {v : V} {ds : List PyData} (h : Dp K H v (.tuple ds)) : ∃ a xs, v = .ref a ∧ SqT K H a xs ∧ DpAll K H xs ds := by
  cases h with
  | tup h1 h2 => exact ⟨_, _, rfl, h1, h2⟩
theorem Dp.intsInv {K : PySem.W.Frag} {H : Hp} {v : V} {ns : List Int} (h : Dp K H v (.tuple (ns.map PyData.int))) : ∃ a, v = .ref a ∧ SqT K H a (ns.map V.int) := by
  obtain ⟨a, xs, e, h1, h2⟩ := Dp.tupInv h
  rw [dp_ints_inv h2] at h1
  exact ⟨a, e, h1⟩

/-! ### a comprehension that gives an item at each turn -/
theorem lc_all {K : PySem.W.Frag} {J : It} {n : Nat} {G : Hp → Prop} {Y : Nat → Hp → V → Hp → Prop} (w : Walk J n G Y) {g : TG} {tt : TT} {te : TE} {vs : List Nat} {σ : L2.St} {H1 : Hp} {D : Addr} {Qd : Hp → Prop}
    (ds : List PyData) (hl : ds.length = n) (ht : ∀ d, d ∈ ds → Tf d) (hn : n ≤ 1000) (hD : H1 D = none) (hG : ∀ H, Same H1 H → G H)
    (hs : ∀ i x H H', i < n → Same H1 H → Y i H x H' → ∀ d, ds[i]? = some d → ∀ R : V → Hp → Prop, (∀ y H4, Same H H4 → Dp K H4 y d → R y H4) →
      g x (wipe σ vs) H' fun σ2 H2 => wipe σ2 vs = wipe σ vs ∧ tt σ2 H2 fun b H3 => b = true ∧ te σ2 H3 R)
    (hd : ∀ H acc, Same H1 H → H D = some (.lst acc) → DpAll K H acc ds → Qd H)
    (mg : ∀ x σ' H' (Q Q' : L2.St → Hp → Prop), (∀ a b, Q a b → Q' a b) → g x σ' H' Q → g x σ' H' Q') (mt : ∀ σ' H' (Q Q' : Bool → Hp → Prop), (∀ a b, Q a b → Q' a b) → tt σ' H' Q → tt σ' H' Q') :
    ∃ W : Nat → Nat → Hp → Prop, (∃ m, W 0 m (upd H1 D (.lst []))) ∧ ∀ i m H, W i m H →
      (J.stop i H ∧ Qd H) ∨ (J.go i H ∧ ∃ Nx : Hp → Prop, (∀ H', Nx H' → ∃ m', m' < m ∧ W (i + 1) m' H') ∧ ∀ x H', J.yld i H x H' → g x (wipe σ vs) H' fun σ2 H2 => wipe σ2 vs = wipe σ vs ∧ tt σ2 H2 fun b H3 =>
        if b = true then te σ2 H3 fun y H4 => ∃ acc, H4 D = some (.lst acc) ∧ acc.length < sizeLine ∧ Nx (upd H4 D (.lst (acc ++ [y]))) else Nx H3) := by
  refine lc_it w (fun i H => Same H1 H ∧ ∃ acc, H D = some (.lst acc) ∧ DpAll K H acc (ds.take i)) ⟨same_upd hD, [], upd_same, .nil⟩ (fun i H _ h => hG H h.1) ?_ ?_
  · rintro i x H H' hi ⟨s1, acc, ha, hA⟩ hy
    have hd' : ds[i]? = some ds[i] := List.getElem?_eq_getElem (by omega)
    have hlen := DpAll.len hA
    rw [List.length_take] at hlen
    refine mg _ _ _ _ _ ?_ (hs i x H H' hi s1 hy ds[i] hd' (fun y H4 => ∃ acc, H4 D = some (.lst acc) ∧ acc.length < sizeLine ∧ (Same H1 (upd H4 D (.lst (acc ++ [y]))) ∧ ∃ acc', (upd H4 D (.lst (acc ++ [y]))) D = some (.lst acc') ∧ DpAll K (upd H4 D (.lst (acc ++ [y]))) acc' (ds.take (i + 1)))) ?_)
    · rintro σ2 H2 ⟨h1, h2⟩
      refine ⟨h1, mt _ _ _ _ ?_ h2⟩
      rintro b H3 ⟨rfl, h3⟩
      exact iteT h3
    · intro y H4 s4 hy4
      refine ⟨acc, s4 _ _ ha, sz61 (by omega), Same.mut (s1.trans s4) hD, acc ++ [y], upd_same, ?_⟩
      have kp : Keep K H4 (upd H4 D (.lst (acc ++ [y]))) := But.keep But.upd (s4 _ _ ha)
      rw [List.take_add_one, hd']
      refine DpAll.keep kp (fun d h => ?_) (DpAll.append (DpAll.same s4 hA) (.cons hy4 .nil))
      rcases List.mem_append.mp h with h | h
      · exact ht d (List.mem_of_mem_take h)
      · have e : d = ds[i] := by simpa using h
        rw [e]; exact ht _ (List.getElem_mem ..)
  · rintro H ⟨s1, acc, ha, hA⟩
    rw [List.take_of_length_le (by omega)] at hA
    exact hd H acc s1 ha hA

/-! ### tuples cut and joined -/
theorem cut_to {xs : List V} {k : Nat} (h : k ≤ xs.length) : cutV xs none (some (k : Int)) = xs.take k := by
  unfold cutV
  rw [HT.sIx_none, HT.sIx_nat, Nat.min_eq_left h]
  simp
theorem cut_from {xs : List V} {k : Nat} (h : k ≤ xs.length) : cutV xs (some (k : Int)) none = xs.drop k := by
  unfold cutV
  rw [HT.sIx_none, HT.sIx_nat, Nat.min_eq_left h]
  rw [List.take_of_length_le (by rw [List.length_drop]; omega)]
theorem sl_read {K : PySem.W.Frag} {H : Hp} {a : Addr} {xs : List V} {lo hi : Option Int} {Q : VK} (h : SqT K H a xs) (q : ∀ p H', Same H H' → SqT K H' p (cutV xs lo hi) → Q (.ref p) H') : rSlA K (.ref a) lo hi H Q := by
  refine ⟨a, xs, rfl, h, fun e => q a H (Same.refl H) ?_, fun _ p hp => q p _ (same_upd hp) (.inl (.inl upd_same))⟩
  unfold cutV
  rw [e.1, e.2]
  simpa using h
theorem cat_read {K : PySem.W.Frag} {H : Hp} {a b : Addr} {xs ys : List V} {Q : VK} (ha : SqT K H a xs) (hb : SqT K H b ys) (hz : xs.length + ys.length ≤ 100000) (q : ∀ p H', Same H H' → SqT K H' p (xs ++ ys) → Q (.ref p) H') : rCatA K (.ref a) (.ref b) H Q := by
  refine ⟨a, b, xs, ys, rfl, rfl, ha, hb, sz60 hz, fun e => q b H (Same.refl H) ?_, fun _ e => q a H (Same.refl H) ?_, fun _ _ p hp => q p _ (same_upd hp) (.inl (.inl upd_same))⟩
  · rw [e]; exact hb
  · rw [e, List.append_nil]; exact ha
theorem DpAll.snoc {K : PySem.W.Frag} {H : Hp} : ∀ {vs : List V} {ds : List PyData} {d : PyData}, DpAll K H vs (ds ++ [d]) → ∃ us v, vs = us ++ [v] ∧ DpAll K H us ds ∧ Dp K H v d
  | _, [], _, .cons a .nil => ⟨[], _, rfl, .nil, a⟩
  | _, _ :: ds, _, .cons a b => by
    obtain ⟨us, v, e, h1, h2⟩ := DpAll.snoc b
    exact ⟨_ :: us, v, by rw [e]; rfl, .cons a h1, h2⟩
theorem ixN_of {n j : Nat} (hj : j < n) : ixN n (j : Int) = some j := by
  unfold ixN
  rw [if_pos (by omega), if_pos (by omega)]
  simp
theorem vi_set (c : List Nat) (k v : Nat) : (vi c).set k (.int (v : Int)) = vi (c.set k v) := by
  unfold vi
  rw [List.map_set]
theorem vi_rep (n v : Nat) : vi (List.replicate n v) = List.replicate n (.int (v : Int)) := by simp [vi]

/-! ### [x for x in range(lo, hi) if ..] -/
theorem lc_fil {lo : Int} {n j : Nat} {vs : List Nat} {σ : L2.St} {H1 : Hp} {D : Addr} {Qd : Hp → Prop} {tt : TT} (f : Nat → Bool) (hn : n ≤ 1000) (hD : H1 D = none)
    (hw : ∀ x, wipe ((wipe σ vs).set j (some x)) vs = wipe σ vs) (hj : ∀ x : V, ((wipe σ vs).set j (some x))[j]? = some (some x))
    (ht : ∀ (i : Nat) H (Q : Bool → Hp → Prop), i < n → Same H1 H → Q (f i) H → tt ((wipe σ vs).set j (some (.int (lo + (i : Nat))))) H Q)
    (hd : ∀ H, Same H1 H → H D = some (.lst (((List.range n).filter f).map fun (i : Nat) => V.int (lo + (i : Nat)))) → Qd H) :
    ∃ W : Nat → Nat → Hp → Prop, (∃ m, W 0 m (upd H1 D (.lst []))) ∧ ∀ i m H, W i m H →
      ((Itr lo n).stop i H ∧ Qd H) ∨ ((Itr lo n).go i H ∧ ∃ Nx : Hp → Prop, (∀ H', Nx H' → ∃ m', m' < m ∧ W (i + 1) m' H') ∧ ∀ x H', (Itr lo n).yld i H x H' → gName j x (wipe σ vs) H' fun σ2 H2 => wipe σ2 vs = wipe σ vs ∧ tt σ2 H2 fun b H3 =>
        if b = true then tVar j σ2 H3 fun y H4 => ∃ acc, H4 D = some (.lst acc) ∧ acc.length < sizeLine ∧ Nx (upd H4 D (.lst (acc ++ [y]))) else Nx H3) := by
  refine lc_range (lo := lo) (n := n) (fun i H => Same H1 H ∧ H D = some (.lst (((List.range i).filter f).map fun (i : Nat) => V.int (lo + (i : Nat))))) ⟨same_upd hD, upd_same⟩ ?_ ?_
  · rintro i H hi ⟨s1, h1⟩
    refine ⟨hw _, ht i H _ hi s1 ?_⟩
    have hlen : (((List.range i).filter f).map fun (i : Nat) => V.int (lo + (i : Nat))).length ≤ i := by
      rw [List.length_map]
      have := List.length_filter_le f (List.range i)
      rw [List.length_range] at this
      exact this
    by_cases hf : f i = true
    · rw [hf]
      refine iteT ⟨_, hj _, _, h1, sz61 (by omega), Same.mut s1 hD, ?_⟩
      rw [List.range_succ, List.filter_append, List.map_append]
      simp only [List.filter_cons, hf, if_true, List.filter_nil, List.map_cons, List.map_nil]
      exact upd_same
    · have hf' : f i = false := by simpa using hf
      rw [hf']
      refine iteF ⟨s1, ?_⟩
      rw [List.range_succ, List.filter_append, List.map_append]
      simpa [hf'] using h1
  · rintro H ⟨s1, h1⟩
    exact hd H s1 h1
theorem iteB1 {b : Bool} {A B : Prop} (h : b = true) (a : A) : if b = true then A else B := by rw [if_pos h]; exact a
theorem iteB0 {b : Bool} {A B : Prop} (h : b = false) (a : B) : if b = true then A else B := by rw [if_neg (by rw [h]; decide)]; exact a

/-! ### deep comparisons -/
theorem lay_all : ∀ {ds : List PyData}, (∀ d, d ∈ ds → d.canLay0 = true) → PyData.canLayAll0 ds = true
  | [], _ => by simp [PyData.canLayAll0]
  | d :: ds, h => by
    simp only [PyData.canLayAll0]
    rw [h d (List.mem_cons_self ..), lay_all fun e he => h e (List.mem_cons_of_mem _ he)]; rfl
theorem dep_all {k : Nat} : ∀ {ds : List PyData}, (∀ d, d ∈ ds → d.depth ≤ k) → PyData.depthAll ds ≤ k
  | [], _ => by simp [PyData.depthAll]
  | d :: ds, h => by
    simp only [PyData.depthAll]
    have h1 := h d (List.mem_cons_self ..)
    have h2 := dep_all (k := k) fun e he => h e (List.mem_cons_of_mem _ he)
    omega
/-- plain data of at most so many levels -/
def Sh (k : Nat) (d : PyData) : Prop := d.canLay0 = true ∧ d.depth ≤ k
theorem Sh.shaped {k : Nat} {d : PyData} (h : Sh k d) (hk : k ≤ 64) : SeqAt.shaped d = true := by
  unfold SeqAt.shaped
  rw [h.1, decide_eq_true (by have := h.2; omega)]; rfl
theorem Sh.tup {k : Nat} {ds : List PyData} (h : ∀ d, d ∈ ds → Sh k d) : Sh (k + 1) (.tuple ds) :=
  ⟨by simp only [PyData.canLay0]; exact lay_all fun d hd => (h d hd).1, by simp only [PyData.depth]; have := dep_all (k := k) (ds := ds) fun d hd => (h d hd).2; omega⟩
theorem Sh.lst {k : Nat} {ds : List PyData} (h : ∀ d, d ∈ ds → Sh k d) : Sh (k + 1) (.list ds) :=
  ⟨by simp only [PyData.canLay0]; exact lay_all fun d hd => (h d hd).1, by simp only [PyData.depth]; have := dep_all (k := k) (ds := ds) fun d hd => (h d hd).2; omega⟩
theorem Sh.int (i : Int) {k : Nat} : Sh k (.int i) := ⟨by simp [PyData.canLay0], by simp [PyData.depth]⟩
theorem Sh.ints {k : Nat} (ns : List Int) : ∀ d, d ∈ ns.map PyData.int → Sh k d := fun d h => by
  obtain ⟨i, _, rfl⟩ := List.mem_map.mp h
  exact .int i
theorem eq_data {K : PySem.W.Frag} {H : Hp} {x y : V} {d : PyData} {Q : VK} {k : Nat} (hx : Dp K H x d) (hy : Dp K H y d) (hs : Sh k d) (hk : k ≤ 64) (q : Q (.bl true) H) : rEqD K x y H Q :=
  ⟨d, d, hx, hy, hs.shaped hk, hs.shaped hk, by rw [SeqAt.eqv_refl d hs.1]; exact q⟩
theorem ne_data {K : PySem.W.Frag} {H : Hp} {x y : V} {d : PyData} {Q : VK} {k : Nat} (hx : Dp K H x d) (hy : Dp K H y d) (hs : Sh k d) (hk : k ≤ 64) (q : Q (.bl false) H) : rNeD K x y H Q :=
  ⟨d, d, hx, hy, hs.shaped hk, hs.shaped hk, by rw [SeqAt.eqv_refl d hs.1]; exact q⟩
theorem dp_tup {K : PySem.W.Frag} {H : Hp} {a : Addr} {ns : List Int} (h : SqT K H a (ns.map V.int)) : Dp K H (.ref a) (.tuple (ns.map PyData.int)) := .tup h (dp_ints ns)
theorem ne_ints {K : PySem.W.Frag} {H : Hp} {a b : Addr} {ns : List Int} {Q : VK} (ha : SqT K H a (ns.map V.int)) (hb : SqT K H b (ns.map V.int)) (q : Q (.bl false) H) : rNeD K (.ref a) (.ref b) H Q :=
  ne_data (dp_tup ha) (dp_tup hb) (Sh.tup (k := 0) (Sh.ints ns)) (by decide) q
end MB

set_option maxHeartbeats 4000000
namespace MB
open PySem PySem.Spec PyProof.Rows L2

/-! ### a def called where no repr is under way -/
structure FnG (P : Program) (w : World) (K : PySem.W.Frag) (mg : Str → Option Value) (base : Heap) (CX : CXT) (k : Nat) (f : Addr) (fd : FuncData) (ps : List Str) (sp : Sp) : Prop where
  len : ∀ vs H Q E, sp vs H Q E → vs.length = ps.length
  run : ∀ (A : Around), A.guards = some [] → Room k A → ∀ (outer : List Env) (s : Shared) (H : Hp) (args : Args) (us : List Value) (vs : List V) (Q : VK) (E : XK),
    Env0 P w K mg base A outer s H → BindsTo s fd args (ps.zip us) → Vals vs us → sp vs H Q E → codeAny (model P w) A (.call (.ref f) args) (CR CX outer P w H s Q E) s
section
variable {P : Program} {w : World} {K : PySem.W.Frag} {mg : Str → Option Value} {base : Heap} {CX : CXT} {k : Nat} {f : Addr} {fd : FuncData} {ps : List Str} {sp : Sp}
theorem FnG.of (F : FnOk P w K mg base CX k f fd ps sp) : FnG P w K mg base CX k f fd ps sp :=
  ⟨F.len, fun A _ hr outer s H args us vs Q E => F.run A outer s H args us vs Q E hr⟩
theorem deeper_guards {A : Around} {env : Env} (h : A.guards = some []) : (A.deeper env).guards = some [] := h
theorem fnG_of {name qual : Str} {params : Arguments} {body : List Stmt} {scope : Scope} {dV kV doc pm cdv ct oc : Value} {an od : Option Addr} {osl : Array (Option Value)} {N : List Str}
    (lk : K.lookup f = some ⟨oc, od, .func (PySem.W.fnOf name qual params body scope dV kV doc pm an cdv ct), osl⟩) (hcd : PySem.W.codeIn K cdv qual = true) (S : FnScope N ps scope)
    (len : ∀ vs H Q E, sp vs H Q E → vs.length = ps.length)
    (hbody : ∀ (A : Around), A.guards = some [] → ∀ (outer : List Env) (s : Shared) (H : Hp) (vs : List V) (Q : VK) (E : XK), Room k (A.deeper (envOfC qual scope s.heap.objs.size f cdv)) → sp vs H Q E →
      ∃ t, PSs (cxOf CX P w K mg base N qual scope f cdv A outer s H E) body t ∧ t { nx := fun _ H' => Q .non H', rt := Q } (start N vs) H) :
    FnG P w K mg base CX (k + 1) f (PySem.W.fnOf name qual params body scope dV kV doc pm an cdv ct) ps sp := by
  refine ⟨len, fun A hgd hr outer s H args us vs Q E e0 hb r hsp => ?_⟩
  have kept : ∀ b o, base.get? b = some o → s.heap.get? b = some o := fun b o e => (e0.bs b o e).1
  have KX : K.In s.heap := e0.mod.kin.keeps kept
  obtain ⟨t, ht, hq⟩ := hbody A hgd outer s H vs Q E (hr.deeper _) hsp
  have par : ∀ y ∈ ps.zip us, scope.names.lookup y.1 = some .local ∨ (scope.names.lookup y.1 = some .cell ∧ ((cellsFrom (s.heap.objs.size + 1) scope.names []).lookup y.1).isSome = true) := by
    rintro ⟨n, v⟩ hy
    exact (S.par n (List.of_mem_zip hy).1).imp id fun z => ⟨z, PySem.W.cellsFrom_some _ _ _ (.inl z)⟩
  refine codeAny_call_function hr.depth (KX _ _ lk) rfl S.co S.gen rfl (PySem.W.codeRec_of KX hcd) (hb _ _ _ _ (wpAny_newFunctionEnv_cells S.kind par fun env he s1 x => ?_))
  subst he
  refine ⟨(e0.mod.nolimit.keeps kept).keeps x.toInCall.keep, codeAny_func (wpAny_mono (ht.run [] s1 (start N vs) H _ (inv_start S hr.hd e0 (len _ _ _ _ hsp) r x) hq) (fun fl s' hs => ?_) fun e s' hs => hs)⟩
  rcases fl with _ | _ | _ | u
  · obtain ⟨σ', H', J, q⟩ := hs
    exact ⟨V.non, H', J.os, J.bare, J.base, J.hok, rfl, q⟩
  · exact (let ⟨_, _, _, q⟩ := hs; False.elim q)
  · exact (let ⟨_, _, _, q⟩ := hs; False.elim q)
  · obtain ⟨v, σ', H', J, rv, q⟩ := hs
    exact ⟨v, H', J.os, J.bare, J.base, J.hok, rv, q⟩
theorem Fun.okG {x qual : Str} {st : Stmt} {N : List Str} (F : L2.Fun K x qual st f fd) (S : FnScope N ps (defScope st)) (len : ∀ vs H Q E, sp vs H Q E → vs.length = ps.length)
    (hbody : ∀ (cdv : Value) (A : Around), A.guards = some [] → ∀ (outer : List Env) (s : Shared) (H : Hp) (vs : List V) (Q : VK) (E : XK), Room k (A.deeper (envOfC qual (defScope st) s.heap.objs.size f cdv)) → sp vs H Q E →
      ∃ t, PSs (cxOf CX0 P w K mg base N qual (defScope st) f cdv A outer s H E).nox (defBody st) t ∧ t { nx := fun _ H' => Q .non H', rt := Q } (start N vs) H) : FnG P w K mg base CX0 (k + 1) f fd ps sp := by
  obtain ⟨oc, od, kV, doc, pm, an, cdv, ct, osl, rfl, lk, hcd⟩ := F.ex
  exact fnG_of lk hcd S len fun A hgd outer s H vs Q E hr hsp => let ⟨t, h, q⟩ := hbody cdv A hgd outer s H vs Q E hr hsp; ⟨t, h.nox, q⟩
end
section
variable {X : Cx} {CX : CXT} {k : Nat} {f : Addr} {fd : FuncData} {ps : List Str} {sp : Sp} {ds : List Value} {dvs : List V} {E : XK} {x : Str} {p pos : Pos} {e : Expr} {es : List Expr} {t : TA}
theorem pe_callG (F : FnG X.prog X.w X.K X.mg X.base CX k f fd ps sp) (hgd : X.A.guards = some []) (hr : Room k X.A) (hg : Gl X x) (hm : X.mg x = some (.ref f)) (hk : PySem.W.keepIn X.K (.ref f) = true) (hb : Binds X.K fd ps ds) (hd : Vals dvs ds) (hx : Passes CX X E)
    (ha : PA X (e :: es) t) (hdb : (x == ("__debug__" : Str)) = false := by decide) (he : starEach (e :: es) X.env = (false, eval e X.env) :: starEach es X.env := by rfl) (hpl : (backTo pos (starEach es X.env)).any (·.1) = false := by rfl) :
    PE X (.Call (.Name x p) (e :: es) [] pos) (tCall sp dvs E t) := by
  refine ⟨fun pins s σ H Q I h => wpAny_Call_Name_kw (ld_glob I hg hm (PySem.W.callWith_K (h₀ := X.base) I.ok.mod.kin hk (thn (ha.run pos pins s σ H _ I h) fun us s1 ⟨vs, H1, I1, r, q⟩ => ⟨I1.kIn, ?_⟩) he hpl) hdb)⟩
  have r2 : Vals (vs ++ dvs) (us ++ ds) := r.append hd
  have hl : (us ++ ds).length = ps.length := r2.length.symm.trans (F.len _ _ _ _ q)
  refine wpAny_call (codeAny_mono (F.run X.A hgd hr X.stack s1 H1 ⟨us, []⟩ (us ++ ds) (vs ++ dvs) Q E I1.env0 (hb s1 us I1.kIn hl) r2 q) fun res s' hq => ?_)
  rcases res with e | fl
  · exact hx pins σ H1 s1 e s' I1 hq
  · rcases fl with _ | _ | _ | u
    · exact False.elim hq
    · exact False.elim hq
    · exact False.elim hq
    · exact I1.after hq
end

/-! ### repr of plain data -/
def rReprD (K : PySem.W.Frag) : List V → Hp → VK → Prop := fun xs H Q => ∃ (x : V) (d : PyData), xs = [x] ∧ Dp K H x d ∧ d.canLay0 = true ∧ d.showable = true ∧ d.depth ≤ 60 ∧ d.shown.length ≤ sizeLine ∧ Q (.str d.shown) H
theorem call_reprD {X : Cx} (hgd : X.A.guards = some []) (hu : X.A.units + 64 < cLine) : CallR X (.builtin "repr") (rReprD X.K) := by
  intro pins s σ H xs us Q I r h
  obtain ⟨x, d, rfl, hd, hc, hs, hdep, hz, q⟩ := h
  obtain ⟨u, rfl, rx⟩ := vals1 r
  obtain ⟨as, rd⟩ := Dp.reads I d x u hd rx
  have nd := PyData.hasDict_of_canLay d hc
  have fin : ∀ (h' : Heap) (v tk : Tok), (∀ b o, s.heap.get? b = some o → h'.get? b = some o) → EP X pins σ Q (.str d.shown v) { s with heap := h', toks := tk } := fun h' v tk hk => ⟨.str d.shown, H, I.kept hk, ⟨_, rfl⟩, q⟩
  cases rd with
  | none => exact PySem.P.repr_of_none (fin _ _ _ fun _ _ e => e)
  | bool b =>
    refine PySem.P.repr_of_bool ?_
    cases b <;> exact fin s.heap s.toks (s.toks + 1) fun _ _ e => e
  | int i t => exact PySem.P.repr_of_int (by simpa [PyData.showable] using hs) (fin s.heap s.toks (s.toks + 1) fun _ _ e => e)
  | str y t => exact PySem.P.repr_of_str (fin s.heap s.toks (s.toks + 1) fun _ _ e => e) hz
  | list h1 h2 h3 h4 => exact repr_of_reads' (.list h1 h2 h3 h4) hs (PyData.noDict_hsm nd) hgd (by omega) (fun _ _ e => e) fin hz
  | tuple h1 h2 h3 h4 => exact repr_of_reads' (.tuple h1 h2 h3 h4) hs (PyData.noDict_hsm nd) hgd (by omega) (fun _ _ e => e) fin hz
  | dict h1 h2 h3 h4 h5 => simp [PyData.canLay0] at hc

/-! ### the end: a law whose promise asks that no repr is under way -/
theorem law_callG {P : Program} {w : World} {K : PySem.W.Frag} {mg mb : Str → Option Value} {k : Nat} {fa a : Addr} {fd : FuncData} {x : Str} {sp : Sp} {s₁ : Shared} {vs : List Value} {ns : List Int}
    (KX : K.In s₁.heap) (hns : s₁.heap.Ns mainGlobals mg) (hb : s₁.heap.Ns builtinsNs mb) (hbb : ∀ x : Str, x ≠ "__name__" → mb x = bootBuiltins x) (hlim : s₁.heap.NoLimit) (hg : s₁.gens = #[])
    (ha : s₁.heap.get? a = some { cls := .type "list", data := .seq vs.toArray }) (hi : IntsAre vs ns) (hl : ns.length ≤ sizeLine) (hr : Room k callerA)
    (F : ∀ base : Heap, K.In base → base.Ns mainGlobals mg → FnG P w K mg base CX0 k fa fd [x] sp) (hbind : ∀ (s : Shared) (u : Value), BindsTo s fd ⟨[u], []⟩ [(x, u)])
    (hsp : ∀ H : Hp, SqL K H a (ns.map V.int) → sp [.ref a] H (fun v _ => v = .bl true) fun _ _ _ => False) :
    codeAny (model P w) callerA (.call (.ref fa) ⟨[.ref a], []⟩) (fun r s' => r = .ok (.ret (.bool true)) ∧ OldK s₁.heap s'.heap ∧ s'.os = s₁.os ∧ AllBare s'.gens) s₁ := by
  let oS : Obj := { cls := .type "list", data := .seq vs.toArray }
  -- the script is tracked as it stands, unless it is one of the module's own objects
  let H : Hp := fun b => if b = a ∧ K.lookup a = none then some (.frz oS (.lst (ns.map V.int))) else none
  have rv := vals_ints hi
  have Hsome : ∀ {b : Addr} {o : HO}, H b = some o → b = a ∧ K.lookup a = none ∧ o = .frz oS (.lst (ns.map V.int)) := fun {b o} e => by
    by_cases c : b = a ∧ K.lookup a = none
    · have e' := (if_pos c).symm.trans e
      exact ⟨c.1, c.2, (Option.some.inj e').symm⟩
    · have e' := (if_neg c).symm.trans e
      cases e'
  have free : ∀ {b : Addr}, (∀ z : b = a, K.lookup a ≠ none) → H b = none := fun {b} n => if_neg fun c => n c.1 c.2
  have hS : SqL K H a (ns.map V.int) := by
    cases hk : K.lookup a with
    | none => exact .inl (.inr ⟨oS, if_pos ⟨rfl, hk⟩⟩)
    | some o =>
      have e := (KX a o hk).symm.trans ha
      cases e
      exact .inr ⟨_, vs.toArray, _, hk, rfl, rfl, rfl, by rw [List.size_toArray, hi.length]; exact hl, by simpa using rv⟩
  have hok : HOk P w H s₁.heap := fun b o e => by
    obtain ⟨rfl, _, rfl⟩ := Hsome e
    exact ⟨ha, by rw [List.length_map]; exact hl, vs, _, rv, ha⟩
  have noDict : ∀ {b : Addr} {o : Obj} {es : Array DictEntry} {ep : Nat}, s₁.heap.get? b = some o → o.data = .dict es ep → H b = none := fun {b o es ep} e d => free fun z => by
    subst z
    rw [ha] at e
    cases e
    cases d
  have ns_hid : ∀ {b : Addr} {m : Str → Option Value}, s₁.heap.Ns b m → (hidT s₁.heap H).Ns b m := fun {b m} ⟨o, es, ep, e, d, r⟩ => ⟨o, es, ep, hidT_get e (noDict e d), d, r⟩
  have hKb : K.In (hidT s₁.heap H) := fun b o e => hidT_get (KX b o e) (free fun z => by subst z; rw [e]; exact fun y => nomatch y)
  have hM : Mod K mg (hidT s₁.heap H) := ⟨hKb, ns_hid hns, ⟨mb, ns_hid hb, hbb⟩, let ⟨mc, h1, h2⟩ := hlim; ⟨mc, ns_hid h1, h2⟩⟩
  have e0 : Env0 P w K mg (hidT s₁.heap H) callerA [] s₁ H := ⟨rfl, hM, fun b o e => of_hidT e, Nat.le_of_eq (hidT_size _ _), trivial, (fun b hb => absurd (show b ∈ ([] : List Addr) from hb) (by simp)), hok, .of_eq hg⟩
  refine codeAny_mono ((F _ hKb (ns_hid hns)).run callerA rfl hr [] s₁ H ⟨[.ref a], []⟩ [.ref a] [.ref a] _ _ e0 (hbind s₁ (.ref a)) (.cons rfl .nil) (hsp H hS)) fun r s' h => ?_
  rcases r with e | fl
  · exact False.elim h
  rcases fl with _ | _ | _ | u
  · exact False.elim h
  · exact False.elim h
  · exact False.elim h
  obtain ⟨v, H', os, bare, un, hok', r', q⟩ := h
  have q' : v = .bl true := q
  subst q'
  obtain rfl : u = Value.bool true := r'
  refine ⟨rfl, OldK.of_keep fun b o e => ?_, os, bare⟩
  cases hb' : H b with
  | none => exact un.keep b o e hb' (fun z => absurd (show b ∈ ([] : List Addr) from z) (by simp)) (by simp)
  | some u =>
    obtain ⟨rfl, hk, rfl⟩ := Hsome hb'
    have e2 := (hok' _ _ (un.frzs _ oS _ hb')).1
    rw [ha] at e
    cases e
    exact e2
theorem walk_ofG {l : PySem.W.OpenLaw} {n k : Nat} {q : Program} {loose : List Str} {XP : (Str → Option Value) → Heap → Prop} {YP : World → Heap → Prop} {d : DefRec} {K : Params → PySem.W.Frag} {sp : PySem.W.Frag → Sp} {x : Str}
    (hn : l.most = some n) (hn2 : n ≤ sizeLine) (hdf : d.params.defaults = []) (hr : Room k callerA)
    (hY : ∀ (w : World) (h : Heap), YP w h → (K w.params).In h)
    (F : ∀ (w : World) (mg : Str → Option Value) (fa : Addr) (h : Heap), (K w.params).In h → h.Ns mainGlobals mg → mg d.name = some (.ref fa) →
      ∃ fd : FuncData, (∀ (s : Shared) (u : Value), BindsTo s fd ⟨[u], []⟩ [(x, u)]) ∧
        ∀ base : Heap, (K w.params).In base → base.Ns mainGlobals mg → FnG l.prog w (K w.params) mg base CX0 k fa fd [x] (sp (K w.params)))
    (hsp : ∀ (K : PySem.W.Frag) (H : Hp) (a : Addr) (ns : List Int), ns.length ≤ n → SqL K H a (ns.map V.int) → sp K [.ref a] H (fun v _ => v = .bl true) fun _ _ _ => False) :
    PySem.W.WalkO q loose XP YP l.row.toRowW d [] (fun f vs => PySem.call f vs) :=
  Att.attach_call hn hdf fun w s₀ s₁ mg mb fa o pm cd doc a vs ns G Y ho hd hcd hmg hobj hints hlen hg =>
    have KX := hY w _ Y
    let ⟨fd, hb, hF⟩ := F w mg fa _ KX G.T.g hmg
    law_callG KX G.T.g G.T.b G.T.builtins G.T.nolimit hg hobj hints (Nat.le_trans hlen hn2) hr hF hb fun H hS => hsp _ H a ns hlen hS
end MB

set_option maxHeartbeats 4000000
namespace MB
open PySem PySem.Spec PyProof.Rows L2
/-- data whose repr is asked: levels, size -/
structure Rp (k n : Nat) (d : PyData) : Prop where
  sh : Sh k d
  shw : d.showable = true
  short : d.leavesShort 13 = true
  bulk : d.bulk ≤ n
theorem Rp.mono {k n m : Nat} {d : PyData} (h : Rp k n d) (e : n ≤ m) : Rp k m d := ⟨h.sh, h.shw, h.short, Nat.le_trans h.bulk e⟩
theorem Rp.int {i : Int} {k : Nat} (h : i.natAbs < 1000000) : Rp k 0 (.int i) := by
  refine ⟨.int i, ?_, ?_, by simp [PyData.bulk]⟩
  · simp only [PyData.showable]
    refine decide_eq_true ?_
    by_cases h0 : i.natAbs = 0
    · rw [h0]; decide
    · exact Nat.lt_trans ((Nat.log2_lt h0).mpr (show i.natAbs < 2 ^ 20 by omega)) (by decide)
  · simp only [PyData.leavesShort]
    refine decide_eq_true ?_
    have e := int_text_length_le10 (a := i) (k := 6) (by decide) h
    have e2 : (PyData.shown (.int i)).length = (toString i).length := by
      simp only [PyData.shown]
      exact PySem.ofString_length _
    omega
theorem rp_all {k n : Nat} : ∀ {ds : List PyData}, (∀ d, d ∈ ds → Rp k n d) → PyData.showableAll ds = true ∧ PyData.leavesShortAll 13 ds = true ∧ PyData.bulkAll ds ≤ (n + 1) * ds.length
  | [], _ => ⟨by simp [PyData.showableAll], by simp [PyData.leavesShortAll], by simp [PyData.bulkAll]⟩
  | d :: ds, h => by
    have h1 := h d (List.mem_cons_self ..)
    obtain ⟨a, b, c⟩ := rp_all fun e he => h e (List.mem_cons_of_mem _ he)
    refine ⟨by simp only [PyData.showableAll, h1.shw, a, Bool.and_self], by simp only [PyData.leavesShortAll, h1.short, b, Bool.and_self], ?_⟩
    simp only [PyData.bulkAll, List.length_cons]
    have := h1.bulk
    rw [Nat.mul_add]
    omega
theorem Rp.tup {k n m : Nat} {ds : List PyData} (h : ∀ d, d ∈ ds → Rp k n d) (hm : (n + 1) * ds.length ≤ m) : Rp (k + 1) m (.tuple ds) := by
  obtain ⟨a, b, c⟩ := rp_all h
  exact ⟨Sh.tup fun d hd => (h d hd).sh, by simp only [PyData.showable]; exact a, by simp only [PyData.leavesShort]; exact b, by simp only [PyData.bulk]; omega⟩
theorem Rp.lst {k n m : Nat} {ds : List PyData} (h : ∀ d, d ∈ ds → Rp k n d) (hm : (n + 1) * ds.length ≤ m) : Rp (k + 1) m (.list ds) := by
  obtain ⟨a, b, c⟩ := rp_all h
  exact ⟨Sh.lst fun d hd => (h d hd).sh, by simp only [PyData.showable]; exact a, by simp only [PyData.leavesShort]; exact b, by simp only [PyData.bulk]; omega⟩
theorem Rp.ints {ns : List Int} {k m : Nat} (h : ∀ i, i ∈ ns → i.natAbs < 1000000) (hm : ns.length ≤ m) : Rp (k + 1) m (.tuple (ns.map PyData.int)) :=
  Rp.tup (n := 0) (fun d hd => by obtain ⟨i, hi, rfl⟩ := List.mem_map.mp hd; exact .int (h i hi)) (by rw [List.length_map]; omega)
theorem Rp.bool {b : Bool} {k : Nat} : Rp k 0 (.bool b) := ⟨⟨by simp [PyData.canLay0], by simp [PyData.depth]⟩, by simp [PyData.showable], by simp [PyData.leavesShort], by simp [PyData.bulk]⟩
/-- repr(x), by data -/
theorem repr_read {K : PySem.W.Frag} {H : Hp} {x : V} {d : PyData} {Q : VK} {k n : Nat} (hd : Dp K H x d) (hs : Rp k n d) (hk : k ≤ 60) (hn : n ≤ 1048576) (q : Q (.str d.shown) H) : rReprD K [x] H Q :=
  ⟨x, d, rfl, hd, hs.sh.1, hs.shw, Nat.le_trans hs.sh.2 hk, PyData.shown_fits_bulk (B := 13) (by decide) (by decide) hs.short (Nat.le_trans hs.bulk (by omega)), q⟩
theorem Rp.all {k n : Nat} {d : PyData} (hs : Rp k n d) (hk : k ≤ 60) (hn : n ≤ 1048576) : d.canLay0 = true ∧ d.showable = true ∧ d.depth ≤ 60 ∧ d.shown.length ≤ sizeLine :=
  ⟨hs.sh.1, hs.shw, Nat.le_trans hs.sh.2 hk, PyData.shown_fits_bulk (B := 13) (by decide) (by decide) hs.short (Nat.le_trans hs.bulk (by omega))⟩
end MB

set_option maxHeartbeats 4000000
namespace MB
open PySem PySem.Spec PyProof.Rows L2
/-- data whose repr is asked: levels, size -/
structure RpW (k n : Nat) (d : PyData) : Prop where
  sh : Sh k d
  shw : d.showable = true
  short : d.leavesShort  75 = true
  bulk : d.bulk ≤ n
theorem RpW.mono {k n m : Nat} {d : PyData} (h : RpW k n d) (e : n ≤ m) : RpW k m d := ⟨h.sh, h.shw, h.short, Nat.le_trans h.bulk e⟩
theorem RpW.int {i : Int} {k : Nat} (h : i.natAbs < 10 ^ 70) : RpW k 0 (.int i) := by
  refine ⟨.int i, ?_, ?_, by simp [PyData.bulk]⟩
  · simp only [PyData.showable]
    refine decide_eq_true ?_
    by_cases h0 : i.natAbs = 0
    · rw [h0]; decide
    · exact Nat.lt_trans ((Nat.log2_lt h0).mpr (show i.natAbs < 2 ^ 240 by exact Nat.lt_trans h (by decide +kernel))) (by decide)
  · simp only [PyData.leavesShort]
    refine decide_eq_true ?_
    have e := int_text_length_le10 (a := i) (k := 70) (by decide) h
    have e2 : (PyData.shown (.int i)).length = (toString i).length := by
      simp only [PyData.shown]
      exact PySem.ofString_length _
    omega
theorem rpW_all {k n : Nat} : ∀ {ds : List PyData}, (∀ d, d ∈ ds → RpW k n d) → PyData.showableAll ds = true ∧ PyData.leavesShortAll  75 ds = true ∧ PyData.bulkAll ds ≤ (n + 1) * ds.length
  | [], _ => ⟨by simp [PyData.showableAll], by simp [PyData.leavesShortAll], by simp [PyData.bulkAll]⟩
  | d :: ds, h => by
    have h1 := h d (List.mem_cons_self ..)
    obtain ⟨a, b, c⟩ := rpW_all fun e he => h e (List.mem_cons_of_mem _ he)
    refine ⟨by simp only [PyData.showableAll, h1.shw, a, Bool.and_self], by simp only [PyData.leavesShortAll, h1.short, b, Bool.and_self], ?_⟩
    simp only [PyData.bulkAll, List.length_cons]
    have := h1.bulk
    rw [Nat.mul_add]
    omega
theorem RpW.tup {k n m : Nat} {ds : List PyData} (h : ∀ d, d ∈ ds → RpW k n d) (hm : (n + 1) * ds.length ≤ m) : RpW (k + 1) m (.tuple ds) := by
  obtain ⟨a, b, c⟩ := rpW_all h
  exact ⟨Sh.tup fun d hd => (h d hd).sh, by simp only [PyData.showable]; exact a, by simp only [PyData.leavesShort]; exact b, by simp only [PyData.bulk]; omega⟩
theorem RpW.lst {k n m : Nat} {ds : List PyData} (h : ∀ d, d ∈ ds → RpW k n d) (hm : (n + 1) * ds.length ≤ m) : RpW (k + 1) m (.list ds) := by
  obtain ⟨a, b, c⟩ := rpW_all h
  exact ⟨Sh.lst fun d hd => (h d hd).sh, by simp only [PyData.showable]; exact a, by simp only [PyData.leavesShort]; exact b, by simp only [PyData.bulk]; omega⟩
theorem RpW.ints {ns : List Int} {k m : Nat} (h : ∀ i, i ∈ ns → i.natAbs < 10 ^ 70) (hm : ns.length ≤ m) : RpW (k + 1) m (.tuple (ns.map PyData.int)) :=
  RpW.tup (n := 0) (fun d hd => by obtain ⟨i, hi, rfl⟩ := List.mem_map.mp hd; exact .int (h i hi)) (by rw [List.length_map]; omega)
theorem RpW.bool {b : Bool} {k : Nat} : RpW k 0 (.bool b) := ⟨⟨by simp [PyData.canLay0], by simp [PyData.depth]⟩, by simp [PyData.showable], by simp [PyData.leavesShort], by simp [PyData.bulk]⟩
theorem fits75 {d : PyData} (hl : d.leavesShort 75 = true) (hw : d.bulk ≤ 100000) : d.shown.length ≤ sizeLine := by
  have h := PyData.shown_le_bulk 75 (by decide) d hl
  have h2 : (75 + 2) * d.bulk ≤ 77 * 100000 := Nat.mul_le_mul (by omega) (by omega)
  have e : sizeLine = 16777216 := by decide
  omega
/-- repr(x), by data -/
theorem reprW_read {K : PySem.W.Frag} {H : Hp} {x : V} {d : PyData} {Q : VK} {k n : Nat} (hd : Dp K H x d) (hs : RpW k n d) (hk : k ≤ 60) (hn : n ≤ 100000) (q : Q (.str d.shown) H) : rReprD K [x] H Q :=
  ⟨x, d, rfl, hd, hs.sh.1, hs.shw, Nat.le_trans hs.sh.2 hk, fits75 hs.short (Nat.le_trans hs.bulk hn), q⟩
theorem RpW.all {k n : Nat} {d : PyData} (hs : RpW k n d) (hk : k ≤ 60) (hn : n ≤ 100000) : d.canLay0 = true ∧ d.showable = true ∧ d.depth ≤ 60 ∧ d.shown.length ≤ sizeLine :=
  ⟨hs.sh.1, hs.shw, Nat.le_trans hs.sh.2 hk, fits75 hs.short (Nat.le_trans hs.bulk hn)⟩
end MB

set_option maxHeartbeats 4000000
namespace MB
open PySem PySem.Spec PyProof.Rows L2

/-! ### f(p = v), no value by position -/
def gK {α : Type} (us ws : List α) : List α := match us with
  | [] => ws
  | _ :: _ => []
section
variable {X : Cx} {CX : CXT} {k : Nat} {f : Addr} {fd : FuncData} {ps ks : List Str} {sp : Sp} {E : XK} {x : Str} {p pos : Pos} {kws : List Keyword} {tk : TA} {g : List Value → List Value → List Value} {gV : List V → List V → List V}
theorem pe_callK0 (F : FnOk X.prog X.w X.K X.mg X.base CX k f fd ps sp) (hr : Room k X.A) (hg : Gl X x) (hm : X.mg x = some (.ref f)) (hk : PySem.W.keepIn X.K (.ref f) = true) (hb : KBinds X.K fd ps ks g gV) (hx : Passes CX X E)
    (hkw : PK X kws tk) (hall : (backToKw pos (keywordEach kws X.env)).all (·.1.isSome) = true := by rfl) (hks : (backToKw pos (keywordEach kws X.env)).filterMap (·.1) = ks := by rfl)
    (hdb : (x == ("__debug__" : Str)) = false := by decide)
    (hpl : ((backTo pos (starEach [] X.env)).any (·.1) || (backToKw pos (keywordEach kws X.env)).any (·.1.isNone)) = false := by rfl) :
    PE X (.Call (.Name x p) [] kws pos) (tCallK sp gV E tNil tk) := by
  refine ⟨fun pins s σ H Q I h => ?_⟩
  refine wpAny_Call_Name_kw (ld_glob I hg hm ?_ hdb)
  refine PySem.W.callWith_KW0 (h₀ := X.base) I.ok.mod.kin hk hall ?_ hpl
  refine thn (hkw.run pos pins s σ H _ I h) fun ws s2 ⟨zs, H2, I2, rz, q2⟩ => ⟨I2.kIn, ?_⟩
  rw [hks]
  exact run_fnk (us := []) (vs := []) F hr hb hx I2 .nil rz q2
end
theorem kb1 {K : PySem.W.Frag} {x qual : Str} {st : Stmt} {f : Addr} {fd : FuncData} {q : Str} (F : L2.Fun K x qual st f fd)
    (h : ∀ (kV doc pm : Value) (an : Option Addr) (cdv ct u : Value), bindArgs (PySem.W.fnOf x qual (defArgs st) (defBody st) (defScope st) .none kV doc pm an cdv ct) ⟨[], [(q, u)]⟩ = pure [(q, u)]) : KBinds K fd [q] [q] gK gK := by
  obtain ⟨oc, od, kV, doc, pm, an, cdv, ct, osl, rfl, lk, hcd⟩ := F.ex
  refine ⟨fun s us ws _ hl => ?_, fun {vs us zs ws} r1 r2 => ?_⟩
  · cases us with
    | cons u us => exact nomatch hl
    | nil =>
      match ws, hl with
      | [u], _ => exact .of_eq (h kV doc pm an cdv ct u)
  · cases r1 with
    | nil => exact r2
    | cons _ _ => exact .nil

/-! ### a comprehension with a test -/
theorem lc_sel {K : PySem.W.Frag} {J : It} {n : Nat} {G : Hp → Prop} {Y : Nat → Hp → V → Hp → Prop} (w : Walk J n G Y) {g : TG} {tt : TT} {te : TE} {vs : List Nat} {σ : L2.St} {H1 : Hp} {D : Addr} {Qd : Hp → Prop}
    (f : Nat → Bool) (d : Nat → PyData) (ht : ∀ i, i < n → Tf (d i)) (hn : n ≤ 1000) (hD : H1 D = none) (hG : ∀ H, Same H1 H → G H)
    (hs : ∀ i x H H', i < n → Same H1 H → Y i H x H' → ∀ R : V → Hp → Prop, (∀ y H4, Same H H4 → Dp K H4 y (d i) → R y H4) →
      g x (wipe σ vs) H' fun σ2 H2 => wipe σ2 vs = wipe σ vs ∧ tt σ2 H2 fun b H3 => b = f i ∧ Same H H3 ∧ (b = true → te σ2 H3 R))
    (hd : ∀ H acc, Same H1 H → H D = some (.lst acc) → DpAll K H acc (((List.range n).filter f).map d) → Qd H)
    (mg : ∀ x σ' H' (Q Q' : L2.St → Hp → Prop), (∀ a b, Q a b → Q' a b) → g x σ' H' Q → g x σ' H' Q') (mt : ∀ σ' H' (Q Q' : Bool → Hp → Prop), (∀ a b, Q a b → Q' a b) → tt σ' H' Q → tt σ' H' Q') :
    ∃ W : Nat → Nat → Hp → Prop, (∃ m, W 0 m (upd H1 D (.lst []))) ∧ ∀ i m H, W i m H →
      (J.stop i H ∧ Qd H) ∨ (J.go i H ∧ ∃ Nx : Hp → Prop, (∀ H', Nx H' → ∃ m', m' < m ∧ W (i + 1) m' H') ∧ ∀ x H', J.yld i H x H' → g x (wipe σ vs) H' fun σ2 H2 => wipe σ2 vs = wipe σ vs ∧ tt σ2 H2 fun b H3 =>
        if b = true then te σ2 H3 fun y H4 => ∃ acc, H4 D = some (.lst acc) ∧ acc.length < sizeLine ∧ Nx (upd H4 D (.lst (acc ++ [y]))) else Nx H3) := by
  refine lc_it w (fun i H => Same H1 H ∧ ∃ acc, H D = some (.lst acc) ∧ DpAll K H acc (((List.range i).filter f).map d)) ⟨same_upd hD, [], upd_same, .nil⟩ (fun i H _ h => hG H h.1) ?_ ?_
  · rintro i x H H' hi ⟨s1, acc, ha, hA⟩ hy
    have hlen := DpAll.len hA
    have hle : acc.length ≤ i := by
      rw [hlen, List.length_map]
      have := List.length_filter_le f (List.range i)
      rw [List.length_range] at this
      exact this
    refine mg _ _ _ _ _ ?_ (hs i x H H' hi s1 hy (fun y H4 => ∃ acc, H4 D = some (.lst acc) ∧ acc.length < sizeLine ∧ (f i = true → Same H1 (upd H4 D (.lst (acc ++ [y]))) ∧ ∃ acc', (upd H4 D (.lst (acc ++ [y]))) D = some (.lst acc') ∧ DpAll K (upd H4 D (.lst (acc ++ [y]))) acc' (((List.range (i + 1)).filter f).map d))) ?_)
    · rintro σ2 H2 ⟨h1, h2⟩
      refine ⟨h1, mt _ _ _ _ ?_ h2⟩
      rintro b H3 ⟨hb, s3, h3⟩
      cases b with
      | true =>
        refine iteT ?_
        have h4 := h3 rfl
        have hb' := hb.symm
        simp only [hb', true_implies] at h4
        exact h4
      | false =>
        refine iteF ⟨s1.trans s3, acc, s3 _ _ ha, ?_⟩
        rw [List.range_succ, List.filter_append, List.map_append]
        have e : List.filter f [i] = [] := by rw [List.filter_cons, if_neg (by rw [← hb]; decide)]; rfl
        rw [e, List.map_nil, List.append_nil]
        exact DpAll.same s3 hA
    · intro y H4 s4 hy4
      refine ⟨acc, s4 _ _ ha, sz61 (by omega), fun hf => ⟨Same.mut (s1.trans s4) hD, acc ++ [y], upd_same, ?_⟩⟩
      have kp : Keep K H4 (upd H4 D (.lst (acc ++ [y]))) := But.keep But.upd (s4 _ _ ha)
      have e : List.filter f [i] = [i] := by rw [List.filter_cons, if_pos hf]; rfl
      rw [List.range_succ, List.filter_append, List.map_append, e]
      refine DpAll.keep kp (fun d' h => ?_) (DpAll.append (DpAll.same s4 hA) (.cons hy4 .nil))
      rcases List.mem_append.mp h with h | h
      · obtain ⟨j, hj, rfl⟩ := List.mem_map.mp h
        have := List.mem_range.mp (List.mem_filter.mp hj).1
        exact ht j (by omega)
      · have e : d' = d i := by simpa using h
        rw [e]; exact ht i hi
  · rintro H ⟨s1, acc, ha, hA⟩
    exact hd H acc s1 ha hA
end MB

set_option maxHeartbeats 4000000
namespace MB
open PySem PySem.Spec PyProof.Rows L2
/-! ### x *= e -/
theorem ip_mulW {X : Cx} : PIp X .Mult (fun x y H Q => ∃ i j, x = .int i ∧ y = .int j ∧ CMulW i j ∧ Q (.int (i * j)) H) := by
  intro pins s σ H x y v u Q I r1 r2 h
  obtain ⟨i, j, e1, e2, hc, q⟩ := h
  subst e1; subst e2
  obtain ⟨t, rfl⟩ := r1
  obtain ⟨t', rfl⟩ := r2
  exact imul_int ⟨.int _, H, I.tok _, ⟨_, rfl⟩, q⟩ hc.ok
/-! ### f(q = v, p = w): by keywords in any order -/
def gP {α : Type} (idx : List Nat) (us ws : List α) : List α := match us with
  | [] => idx.filterMap fun i => ws[i]?
  | _ :: _ => []
theorem gP_take {α : Type} {n : Nat} {ws : List α} : ∀ {idx : List Nat}, (∀ i, i ∈ idx → i < n) → (idx.filterMap fun i => (ws.take n)[i]?) = idx.filterMap fun i => ws[i]?
  | [], _ => rfl
  | i :: idx, h => by
    have h1 := h i (List.mem_cons_self ..)
    have h2 := gP_take (α := α) (n := n) (ws := ws) (idx := idx) fun j hj => h j (List.mem_cons_of_mem _ hj)
    rw [List.filterMap_cons, List.filterMap_cons, h2, List.getElem?_take, if_pos h1]
theorem gP_len {α : Type} {ws : List α} : ∀ {idx : List Nat}, (idx.filterMap fun i => ws[i]?).length = idx.length → ∀ i, i ∈ idx → i < ws.length
  | [], _, i, h => nomatch h
  | j :: idx, hl, i, h => by
    cases e : ws[j]? with
    | none =>
      simp only [List.filterMap_cons, e] at hl
      have := List.length_filterMap_le (fun i => ws[i]?) idx
      simp only [List.length_cons] at hl
      omega
    | some x =>
      simp only [List.filterMap_cons, e, List.length_cons, Nat.add_right_cancel_iff] at hl
      rcases List.mem_cons.mp h with h | h
      · subst h
        exact (List.getElem?_eq_some_iff.mp e).1
      · exact gP_len hl i h
theorem gP_rel {zs : List V} {ws : List Value} (r : Vals zs ws) : ∀ idx : List Nat, Vals (idx.filterMap fun i => zs[i]?) (idx.filterMap fun i => ws[i]?)
  | [] => .nil
  | i :: idx => by
    have ih := gP_rel r idx
    cases e : zs[i]? with
    | none =>
      have e2 : ws[i]? = none := List.getElem?_eq_none (by rw [← r.length]; exact List.getElem?_eq_none_iff.mp e)
      simp only [List.filterMap_cons, e, e2]; exact ih
    | some x =>
      obtain ⟨u, e2, ru⟩ := r.get e
      simp only [List.filterMap_cons, e, e2]; exact .cons ru ih
theorem zip_take {α β : Type} : ∀ (ks : List α) (ws : List β), ks.zip (ws.take ks.length) = ks.zip ws
  | [], _ => rfl
  | _ :: _, [] => rfl
  | k :: ks, w :: ws => by simp [zip_take ks ws]
theorem kbP {K : PySem.W.Frag} {x qual : Str} {st : Stmt} {f : Addr} {fd : FuncData} {ps ks : List Str} {idx : List Nat} (F : L2.Fun K x qual st f fd) (hi : idx.length = ps.length) (hk : ks.length = ps.length) (hp : 0 < ps.length)
    (hall : (∀ i, i ∈ idx → i < ps.length) ∧ ps.length - 1 ∈ idx)
    (h : ∀ (kV doc pm : Value) (an : Option Addr) (cdv ct : Value) (ws : List Value), ws.length = ps.length → bindArgs (PySem.W.fnOf x qual (defArgs st) (defBody st) (defScope st) .none kV doc pm an cdv ct) ⟨[], ks.zip ws⟩ = pure (ps.zip (gP idx [] ws))) : KBinds K fd ps ks (gP idx) (gP idx) := by
  obtain ⟨oc, od, kV, doc, pm, an, cdv, ct, osl, rfl, lk, hcd⟩ := F.ex
  refine ⟨fun s us ws _ hl => ?_, fun {vs us zs ws} r1 r2 => ?_⟩
  · cases us with
    | cons u us =>
      have : 0 = ps.length := hl
      omega
    | nil =>
      have hl' : (idx.filterMap fun i => ws[i]?).length = idx.length := by rw [hi]; exact hl
      have h2 := gP_len hl' _ hall.2
      have h3 := h kV doc pm an cdv ct (ws.take ps.length) (by rw [List.length_take]; omega)
      have e1 : gP idx [] (ws.take ps.length) = gP idx [] ws := gP_take hall.1
      have e2 : ks.zip (ws.take ps.length) = ks.zip ws := by
        rw [← hk]
        exact zip_take ks ws
      rw [e1, e2] at h3
      exact .of_eq h3
  · cases r1 with
    | nil => exact gP_rel r2 idx
    | cons _ _ => exact .nil
section
variable {X : Cx} {CX : CXT} {k : Nat} {f : Addr} {fd : FuncData} {ps ks : List Str} {sp : Sp} {E : XK} {x : Str} {p pos : Pos} {kws : List Keyword} {tk : TA} {g : List Value → List Value → List Value} {gV : List V → List V → List V}
end
end MB

set_option maxHeartbeats 4000000
namespace MB
open PySem PySem.Spec PyProof.Rows L2
theorem blT {c : Prop} [Decidable c] (h : c) : V.bl (decide c) = V.bl true := by rw [decide_eq_true h]
theorem blF {c : Prop} [Decidable c] (h : ¬ c) : V.bl (decide c) = V.bl false := by rw [decide_eq_false h]
theorem nblF {c : Prop} [Decidable c] (h : c) : V.bl (!decide c) = V.bl false := by rw [decide_eq_true h]; rfl
theorem nblT {c : Prop} [Decidable c] (h : ¬ c) : V.bl (!decide c) = V.bl true := by rw [decide_eq_false h]; rfl
theorem int_ne {i j : Int} (h : i ≠ j) : ¬ V.int i = V.int j := fun e => h (by injection e)
theorem dp_bls_inv {K : PySem.W.Frag} {H : Hp} : ∀ {ns : List Bool} {vs : List V}, DpAll K H vs (ns.map PyData.bool) → vs = ns.map V.bl
  | [], _, .nil => rfl
  | n :: ns, _, .cons a b => by
    cases a
    rw [dp_bls_inv b]
    rfl
/-- a comprehension whose items are truth values -/
theorem lc_bools {K : PySem.W.Frag} {J : It} {n : Nat} {G : Hp → Prop} {Y : Nat → Hp → V → Hp → Prop} (w : Walk J n G Y) {g : TG} {tt : TT} {te : TE} {vs : List Nat} {σ : L2.St} {H1 : Hp} {D : Addr} {Qd : Hp → Prop}
    (bs : List Bool) (hl : bs.length = n) (hn : n ≤ 1000) (hD : H1 D = none) (hG : ∀ H, Same H1 H → G H)
    (hs : ∀ i x H H', i < n → Same H1 H → Y i H x H' → ∀ b, bs[i]? = some b → ∀ R : V → Hp → Prop, (∀ H4, Same H H4 → R (.bl b) H4) →
      g x (wipe σ vs) H' fun σ2 H2 => wipe σ2 vs = wipe σ vs ∧ tt σ2 H2 fun b H3 => b = true ∧ te σ2 H3 R)
    (hd : ∀ H, Same H1 H → H D = some (.lst (bs.map V.bl)) → Qd H)
    (mg : ∀ x σ' H' (Q Q' : L2.St → Hp → Prop), (∀ a b, Q a b → Q' a b) → g x σ' H' Q → g x σ' H' Q') (mt : ∀ σ' H' (Q Q' : Bool → Hp → Prop), (∀ a b, Q a b → Q' a b) → tt σ' H' Q → tt σ' H' Q') :
    ∃ W : Nat → Nat → Hp → Prop, (∃ m, W 0 m (upd H1 D (.lst []))) ∧ ∀ i m H, W i m H →
      (J.stop i H ∧ Qd H) ∨ (J.go i H ∧ ∃ Nx : Hp → Prop, (∀ H', Nx H' → ∃ m', m' < m ∧ W (i + 1) m' H') ∧ ∀ x H', J.yld i H x H' → g x (wipe σ vs) H' fun σ2 H2 => wipe σ2 vs = wipe σ vs ∧ tt σ2 H2 fun b H3 =>
        if b = true then te σ2 H3 fun y H4 => ∃ acc, H4 D = some (.lst acc) ∧ acc.length < sizeLine ∧ Nx (upd H4 D (.lst (acc ++ [y]))) else Nx H3) := by
  refine lc_all (K := K) w (bs.map PyData.bool) (by rw [List.length_map, hl]) (fun d h => ?_) hn hD hG ?_ ?_ mg mt
  · obtain ⟨b, _, rfl⟩ := List.mem_map.mp h
    exact .bl b
  · intro i x H H' hi s y d hd' R hR
    rw [List.getElem?_map] at hd'
    cases e : bs[i]? with
    | none => rw [e] at hd'; cases hd'
    | some b =>
      rw [e] at hd'
      cases hd'
      exact hs i x H H' hi s y b e R fun H4 s4 => hR _ _ s4 (.bl b)
  · intro H acc s ha hA
    rw [dp_bls_inv hA] at ha
    exact hd H s ha
/-- a comprehension whose items are numbers -/
theorem lc_ints {K : PySem.W.Frag} {J : It} {n : Nat} {G : Hp → Prop} {Y : Nat → Hp → V → Hp → Prop} (w : Walk J n G Y) {g : TG} {tt : TT} {te : TE} {vs : List Nat} {σ : L2.St} {H1 : Hp} {D : Addr} {Qd : Hp → Prop}
    (bs : List Int) (hl : bs.length = n) (hn : n ≤ 1000) (hD : H1 D = none) (hG : ∀ H, Same H1 H → G H)
    (hs : ∀ i x H H', i < n → Same H1 H → Y i H x H' → ∀ b, bs[i]? = some b → ∀ R : V → Hp → Prop, (∀ H4, Same H H4 → R (.int b) H4) →
      g x (wipe σ vs) H' fun σ2 H2 => wipe σ2 vs = wipe σ vs ∧ tt σ2 H2 fun b H3 => b = true ∧ te σ2 H3 R)
    (hd : ∀ H, Same H1 H → H D = some (.lst (bs.map V.int)) → Qd H)
    (mg : ∀ x σ' H' (Q Q' : L2.St → Hp → Prop), (∀ a b, Q a b → Q' a b) → g x σ' H' Q → g x σ' H' Q') (mt : ∀ σ' H' (Q Q' : Bool → Hp → Prop), (∀ a b, Q a b → Q' a b) → tt σ' H' Q → tt σ' H' Q') :
    ∃ W : Nat → Nat → Hp → Prop, (∃ m, W 0 m (upd H1 D (.lst []))) ∧ ∀ i m H, W i m H →
      (J.stop i H ∧ Qd H) ∨ (J.go i H ∧ ∃ Nx : Hp → Prop, (∀ H', Nx H' → ∃ m', m' < m ∧ W (i + 1) m' H') ∧ ∀ x H', J.yld i H x H' → g x (wipe σ vs) H' fun σ2 H2 => wipe σ2 vs = wipe σ vs ∧ tt σ2 H2 fun b H3 =>
        if b = true then te σ2 H3 fun y H4 => ∃ acc, H4 D = some (.lst acc) ∧ acc.length < sizeLine ∧ Nx (upd H4 D (.lst (acc ++ [y]))) else Nx H3) := by
  refine lc_all (K := K) w (bs.map PyData.int) (by rw [List.length_map, hl]) (tf_ints _) hn hD hG ?_ ?_ mg mt
  · intro i x H H' hi s y d hd' R hR
    rw [List.getElem?_map] at hd'
    cases e : bs[i]? with
    | none => rw [e] at hd'; cases hd'
    | some b =>
      rw [e] at hd'
      cases hd'
      exact hs i x H H' hi s y b e R fun H4 s4 => hR _ _ s4 (.int b)
  · intro H acc s ha hA
    rw [dp_ints_inv hA] at ha
    exact hd H s ha
theorem k_pgTN {X : Cx} {K : PySem.W.Frag} {x y z : Str} {px py pz p1 : Pos} {k k1 : Nat} {pos : Pos} {t1 t2 : TG} (hK : X.K = K) (hc : X.calm = true) (h1 : PG X (.Tuple [.Name x px, .Name y py] k1 p1) t1) (h2 : PG X (.Name z pz) t2) : PG X (.Tuple [.Tuple [.Name x px, .Name y py] k1 p1, .Name z pz] k pos) (gTup K 2 (gCons t1 (gCons t2 gNil))) := by
  subst hK
  exact pg_tup hc (pgs_cons h1 (pgs_cons h2 pgs_nil))
theorem mono_pair2 {K : PySem.W.Frag} {n n' i j l : Nat} (x : V) (σ' : L2.St) (H' : Hp) (Q Q' : L2.St → Hp → Prop) (h : ∀ a b, Q a b → Q' a b) (e : gTup K n (gCons (gTup K n' (gCons (gName i) (gCons (gName j) gNil))) (gCons (gName l) gNil)) x σ' H' Q) : gTup K n (gCons (gTup K n' (gCons (gName i) (gCons (gName j) gNil))) (gCons (gName l) gNil)) x σ' H' Q' := by
  obtain ⟨a, xs, e1, e2, e3, v, r, e4, b, ys, f1, f2, f3, v1, r1, f4, v2, r2, f5, f6, v', r', e5, e6, q⟩ := e
  exact ⟨a, xs, e1, e2, e3, v, r, e4, b, ys, f1, f2, f3, v1, r1, f4, v2, r2, f5, f6, v', r', e5, e6, h _ _ q⟩
theorem ci_sum : ∀ p : List Nat, (ci p).sum = ((p.sum : Nat) : Int)
  | [] => rfl
  | x :: p => by
    have := ci_sum p
    simp only [ci, List.map_cons, List.sum_cons, Int.natCast_add] at this ⊢
    rw [this]
theorem cutV_to {p : List Nat} {m : Nat} (h : m ≤ p.length) : cutV (vi p) none (some (m : Int)) = vi (p.take m) := by
  rw [cut_to (by rw [vi_len]; exact h)]; simp [vi, List.map_take]
theorem cutV_from {p : List Nat} {m : Nat} (h : m ≤ p.length) : cutV (vi p) (some (m : Int)) none = vi (p.drop m) := by
  rw [cut_from (by rw [vi_len]; exact h)]; simp [vi, List.map_drop]
theorem cut_drop {p : List Nat} {m : Nat} (h : m ≤ p.length) : cutV (vi p) (some (m : Int)) none = (ci (p.drop m)).map V.int := by
  rw [cutV_from h, vi_ci]
theorem isi_int {K : PySem.W.Frag} {H : Hp} {i : Int} {Q : VK} (q : Q (.bl true) H) : rIsi K [.int i, .ty "int"] H Q :=
  ⟨.int i, .ty "int", .type "int", .type "int", true, rfl, .ty _, .base (.int i), kit_ty (by decide +kernel), q⟩
theorem isi_bool {K : PySem.W.Frag} {H : Hp} {i : Int} {Q : VK} (q : Q (.bl false) H) : rIsi K [.int i, .ty "bool"] H Q :=
  ⟨.int i, .ty "bool", .type "int", .type "bool", false, rfl, .ty _, .base (.int i), kit_ty (by decide +kernel), q⟩
theorem nth3 {n : Nat} (x : List V) (h : x.length = n) (i : Nat) (hi : i < (if (if (x.length : Int) < 3 then (x.length : Int) else 3) > 1 then (if (x.length : Int) < 3 then (x.length : Int) else 3) else 1 : Int).toNat) : i ≤ 62 := by
  have : (if (if (x.length : Int) < 3 then (x.length : Int) else 3) > 1 then (if (x.length : Int) < 3 then (x.length : Int) else 3) else 1) ≤ 3 := by split <;> split <;> omega
  omega
end MB

set_option maxHeartbeats 4000000
namespace MB
/-! ### binomial coefficients -/
def bin : Nat → Nat → Nat
  | _, 0 => 1
  | 0, _ + 1 => 0
  | n + 1, k + 1 => bin n k + bin n (k + 1)
theorem bin_zero (n : Nat) : bin n 0 = 1 := by cases n <;> rfl
theorem bin_succ (n k : Nat) : bin (n + 1) (k + 1) = bin n k + bin n (k + 1) := rfl
theorem bin_lt : ∀ {n k : Nat}, n < k → bin n k = 0
  | 0, k + 1, _ => rfl
  | n + 1, k + 1, h => by rw [bin_succ, bin_lt (n := n) (by omega), bin_lt (n := n) (by omega)]
theorem bin_self : ∀ n : Nat, bin n n = 1
  | 0 => rfl
  | n + 1 => by rw [bin_succ, bin_self n, bin_lt (by omega)]
theorem bin_one : ∀ n : Nat, bin n 1 = n
  | 0 => rfl
  | n + 1 => by rw [bin_succ, bin_zero, bin_one n]; omega
theorem bin_pos : ∀ {n k : Nat}, k ≤ n → 0 < bin n k
  | n, 0, _ => by rw [bin_zero]; decide
  | n + 1, k + 1, h => by rw [bin_succ]; have := bin_pos (n := n) (k := k) (by omega); omega
theorem bin_mul : ∀ n k : Nat, bin (n + 1) (k + 1) * (k + 1) = (n + 1) * bin n k
  | 0, 0 => by decide
  | 0, k + 1 => by simp [bin]
  | n + 1, 0 => by rw [bin_one, bin_zero]
  | n + 1, k + 1 => by
    have h1 := bin_mul n k
    have h2 := bin_mul n (k + 1)
    rw [bin_succ (n + 1) (k + 1), Nat.add_mul, h2]
    have e1 : bin (n + 1) (k + 1) * (k + 1 + 1) = bin (n + 1) (k + 1) * (k + 1) + bin (n + 1) (k + 1) := by rw [Nat.mul_add, Nat.mul_one]
    rw [e1, h1, bin_succ n k]
    grind
/-- the next one in a row -/
theorem bin_step {n j : Nat} (h : j ≤ n) : bin n (j + 1) * (j + 1) = bin n j * (n - j) := by
  have h1 := bin_mul n j
  rw [bin_succ, Nat.add_mul] at h1
  have e : (n + 1) * bin n j = bin n j * (n - j) + bin n j * (j + 1) := by rw [← Nat.mul_add, Nat.mul_comm]; congr 1; omega
  omega
theorem bin_div {n j : Nat} (h : j ≤ n) : bin n j * (n - j) / (j + 1) = bin n (j + 1) := by
  rw [← bin_step h, Nat.mul_div_cancel _ (by omega)]
theorem bin_sym : ∀ a b : Nat, bin (a + b) a = bin (a + b) b
  | 0, b => by rw [Nat.zero_add, bin_zero, bin_self]
  | a + 1, 0 => by rw [Nat.add_zero, bin_zero, bin_self]
  | a + 1, b + 1 => by
    have e : a + 1 + (b + 1) = (a + b + 1) + 1 := by omega
    rw [e, bin_succ (a + b + 1) a, bin_succ (a + b + 1) b]
    have h1 := bin_sym a (b + 1)
    have h2 := bin_sym (a + 1) b
    have e1 : a + (b + 1) = a + b + 1 := by omega
    have e2 : a + 1 + b = a + b + 1 := by omega
    rw [e1] at h1; rw [e2] at h2
    omega
theorem bin_sub {n k : Nat} (h : k ≤ n) : bin n (n - k) = bin n k := by
  have := bin_sym k (n - k)
  rw [show k + (n - k) = n by omega] at this
  exact this.symm
theorem bin_min {n k : Nat} (h : k ≤ n) : bin n (min k (n - k)) = bin n k := by
  by_cases c : k ≤ n - k
  · rw [Nat.min_eq_left c]
  · rw [Nat.min_eq_right (by omega), bin_sub h]
theorem bin_mono1 : ∀ n k : Nat, bin n k ≤ bin (n + 1) k
  | n, 0 => by rw [bin_zero, bin_zero]; exact Nat.le_refl _
  | n, k + 1 => by rw [bin_succ]; omega
theorem bin_mono {n m : Nat} (k : Nat) (h : n ≤ m) : bin n k ≤ bin m k := by
  induction h with
  | refl => exact Nat.le_refl _
  | step _ ih => exact Nat.le_trans ih (bin_mono1 _ _)
theorem bin_strict1 {n k : Nat} (h : k ≤ n + 1) : bin n (k + 1) < bin (n + 1) (k + 1) ∨ n < k := by
  by_cases c : n < k
  · exact .inr c
  · refine .inl ?_
    rw [bin_succ]
    have := bin_pos (n := n) (k := k) (by omega)
    omega
theorem bin_strict {n m k : Nat} (hk : 1 ≤ k) (hn : k ≤ n + 1) (h : n < m) : bin n k < bin m k := by
  have h1 : bin n k < bin (n + 1) k := by
    obtain ⟨j, rfl⟩ : ∃ j, k = j + 1 := ⟨k - 1, by omega⟩
    rw [bin_succ]
    have := bin_pos (n := n) (k := j) (by omega)
    omega
  exact Nat.lt_of_lt_of_le h1 (bin_mono k h)
theorem bin_pow : ∀ n k : Nat, bin n k ≤ (n + 1) ^ k
  | n, 0 => by rw [bin_zero]; simp
  | 0, k + 1 => by rw [bin_lt (by omega)]; exact Nat.zero_le _
  | n + 1, k + 1 => by
    have h := bin_mul n k
    have h1 : bin (n + 1) (k + 1) ≤ bin (n + 1) (k + 1) * (k + 1) := Nat.le_mul_of_pos_right _ (by omega)
    have h2 := bin_pow n k
    have h3 : (n + 1) ^ k ≤ (n + 1 + 1) ^ k := Nat.pow_le_pow_left (by omega) _
    have h4 : (n + 1) * bin n k ≤ (n + 1 + 1) * (n + 1 + 1) ^ k := Nat.mul_le_mul (by omega) (Nat.le_trans h2 h3)
    have h5 : (n + 1 + 1) ^ (k + 1) = (n + 1 + 1) * (n + 1 + 1) ^ k := by rw [Nat.pow_succ, Nat.mul_comm]
    omega
theorem bin_bits {n k : Nat} (hn : n < 2 ^ 64) (hk : k ≤ 64) : bin n k < 2 ^ 4097 := by
  have h1 := bin_pow n k
  have h2 : (n + 1) ^ k ≤ (2 ^ 64) ^ k := Nat.pow_le_pow_left (by omega) _
  have h3 : (2 ^ 64) ^ k ≤ (2 ^ 64 : Nat) ^ 64 := Nat.pow_le_pow_right (by decide) hk
  have h4 : ((2 ^ 64 : Nat) ^ 64) < 2 ^ 4097 := by decide +kernel
  omega
theorem bin_big {k c : Nat} (hk : 1 ≤ k) : c + 1 ≤ bin (k + c) k := by
  induction c with
  | zero => show 1 ≤ bin k k; rw [bin_self]; exact Nat.le_refl _
  | succ c ih =>
    have := bin_strict (n := k + c) (m := k + (c + 1)) (k := k) hk (by omega) (by omega)
    omega
/-- c is the least with n < C(k + c, k) -/
def Lw (k n c : Nat) : Prop := n < bin (k + c) k ∧ ∀ d, d < c → bin (k + d) k ≤ n
theorem Lw.uniq {k n c d : Nat} (a : Lw k n c) (b : Lw k n d) : c = d := by
  rcases Nat.lt_trichotomy c d with h | h | h
  · have := b.2 c h; have := a.1; omega
  · exact h
  · have := a.2 d h; have := b.1; omega
theorem Lw.mk' {k n c : Nat} (h : n < bin (k + c) k) (h' : c = 0 ∨ bin (k + (c - 1)) k ≤ n) : Lw k n c := by
  refine ⟨h, fun d hd => ?_⟩
  rcases h' with e | e
  · omega
  · exact Nat.le_trans (bin_mono k (by omega)) e
def lwGo (k n : Nat) : Nat → Nat → Nat
  | 0, c => c
  | f + 1, c => if n < bin (k + c) k then c else lwGo k n f (c + 1)
def lw (k n : Nat) : Nat := lwGo k n (n + 1) 0
theorem lwGo_ok {k n : Nat} (hk : 1 ≤ k) : ∀ f c, (∀ d, d < c → bin (k + d) k ≤ n) → n < f + c → Lw k n (lwGo k n f c)
  | 0, c, h, hf => ⟨by have := bin_big (k := k) (c := c) hk; unfold lwGo; omega, h⟩
  | f + 1, c, h, hf => by
    unfold lwGo
    by_cases hc : n < bin (k + c) k
    · rw [if_pos hc]; exact ⟨hc, h⟩
    · rw [if_neg hc]
      refine lwGo_ok hk f (c + 1) (fun d hd => ?_) (by omega)
      by_cases e : d < c
      · exact h d e
      · have : d = c := by omega
        subst this; omega
theorem lw_ok {k : Nat} (n : Nat) (hk : 1 ≤ k) : Lw k n (lw k n) := lwGo_ok hk _ _ (fun _ h => absurd h (by omega)) (by omega)
theorem lw_le {k n : Nat} (hk : 1 ≤ k) : lw k n ≤ n := by
  have h := (lw_ok n hk).2
  by_cases c : lw k n ≤ n
  · exact c
  · have h1 := h n (by omega)
    have := bin_big (k := k) (c := n) hk
    omega
end MB

set_option maxHeartbeats 4000000
namespace MB
/-- the terms above 0 of the representation of n with k terms -/
def rl : Nat → Nat → List Nat
  | 0, _ => []
  | k + 1, n => if n = 0 then [] else bin (k + lw (k + 1) n) (k + 1) :: rl k (n - bin (k + lw (k + 1) n) (k + 1))
theorem rl_zero (k : Nat) : rl k 0 = [] := by cases k <;> simp [rl]
theorem rl_succ {k n : Nat} (h : n ≠ 0) : rl (k + 1) n = bin (k + lw (k + 1) n) (k + 1) :: rl k (n - bin (k + lw (k + 1) n) (k + 1)) := by simp [rl, h]
theorem lw_pos {k n : Nat} (hk : 1 ≤ k) (hn : n ≠ 0) : 1 ≤ lw k n := by
  have h := (lw_ok n hk).1
  by_cases c : lw k n = 0
  · rw [c] at h
    have : bin (k + 0) k = 1 := bin_self k
    omega
  · omega
theorem top_le {k n : Nat} (hn : n ≠ 0) : bin (k + lw (k + 1) n) (k + 1) ≤ n := by
  have h1 := lw_pos (k := k + 1) (by omega) hn
  have h2 := (lw_ok (k := k + 1) n (by omega)).2 (lw (k + 1) n - 1) (by omega)
  rwa [show k + 1 + (lw (k + 1) n - 1) = k + lw (k + 1) n by omega] at h2
theorem top_pos {k n : Nat} (hn : n ≠ 0) : 0 < bin (k + lw (k + 1) n) (k + 1) :=
  bin_pos (by have := lw_pos (k := k + 1) (by omega) hn; omega)
theorem rest_lt {k n : Nat} (hn : n ≠ 0) : n - bin (k + lw (k + 1) n) (k + 1) < bin (k + lw (k + 1) n) k := by
  have h1 := (lw_ok (k := k + 1) n (by omega)).1
  have h2 := top_le (k := k) hn
  rw [show k + 1 + lw (k + 1) n = (k + lw (k + 1) n) + 1 by omega, bin_succ] at h1
  omega
theorem rest_zero {n : Nat} (hn : n ≠ 0) : n - bin (0 + lw (0 + 1) n) (0 + 1) = 0 := by
  have := rest_lt (k := 0) hn
  rw [bin_zero] at this
  omega
theorem rl_sum : ∀ k n : Nat, (k = 0 → n = 0) → (rl k n).sum = n
  | 0, n, h => by rw [h rfl]; rfl
  | k + 1, n, _ => by
    by_cases hn : n = 0
    · subst hn; rw [rl_zero]; rfl
    · rw [rl_succ hn, List.sum_cons, rl_sum k _ (fun e => by subst e; exact rest_zero hn)]
      have := top_le (k := k) hn
      omega
theorem rl_len : ∀ k n : Nat, (rl k n).length ≤ k
  | 0, n => by simp [rl]
  | k + 1, n => by
    by_cases hn : n = 0
    · subst hn; rw [rl_zero]; simp
    · rw [rl_succ hn, List.length_cons]
      have := rl_len k (n - bin (k + lw (k + 1) n) (k + 1))
      omega
theorem rl_pos : ∀ k n : Nat, ∀ x, x ∈ rl k n → 0 < x ∧ x ≤ n
  | 0, n, x, h => by simp [rl] at h
  | k + 1, n, x, h => by
    by_cases hn : n = 0
    · subst hn; rw [rl_zero] at h; cases h
    · rw [rl_succ hn] at h
      rcases List.mem_cons.mp h with h | h
      · rw [h]; exact ⟨top_pos hn, top_le hn⟩
      · have := rl_pos k _ x h
        omega
/-- the last flush's run holds what was merged and its own -/
theorem rl_step : ∀ k n : Nat, ∃ m, m ≤ (rl (k + 1) n).length ∧ rl (k + 1) (n + 1) = (rl (k + 1) n).take m ++ [1 + ((rl (k + 1) n).drop m).sum]
  | k, n => by
    by_cases hn : n = 0
    · subst hn
      refine ⟨0, Nat.zero_le _, ?_⟩
      rw [rl_zero, rl_succ (by omega)]
      have e : lw (k + 1) (0 + 1) = 1 := (lw_ok (0 + 1) (by omega)).uniq (Lw.mk' (by
        have := bin_big (k := k + 1) (c := 1) (by omega); omega) (.inr (by rw [show k + 1 + (1 - 1) = k + 1 by omega, bin_self]; exact Nat.le_refl _)))
      rw [e, bin_self, show 0 + 1 - 1 = 0 by omega, rl_zero]
      rfl
    · have hc := lw_ok (k := k + 1) n (by omega)
      by_cases hlt : n + 1 < bin (k + 1 + lw (k + 1) n) (k + 1)
      · have e : lw (k + 1) (n + 1) = lw (k + 1) n := (lw_ok (n + 1) (by omega)).uniq ⟨hlt, fun d hd => Nat.le_succ_of_le (hc.2 d hd)⟩
        cases k with
        | zero =>
          exfalso
          have h1 := rest_zero hn
          rw [bin_one] at h1 hlt
          have h2 := top_le (k := 0) hn
          rw [bin_one] at h2
          omega
        | succ k =>
          have hT := top_le (k := k + 1) hn
          obtain ⟨m, hm, hs⟩ := rl_step k (n - bin (k + 1 + lw (k + 1 + 1) n) (k + 1 + 1))
          refine ⟨m + 1, ?_, ?_⟩
          · rw [rl_succ hn, List.length_cons]; omega
          · rw [rl_succ (n := n + 1) (by omega), e, rl_succ hn, show n + 1 - bin (k + 1 + lw (k + 1 + 1) n) (k + 1 + 1) = n - bin (k + 1 + lw (k + 1 + 1) n) (k + 1 + 1) + 1 by omega, hs]
            simp
      · have e0 : n + 1 = bin (k + 1 + lw (k + 1) n) (k + 1) := by have := hc.1; omega
        have e : lw (k + 1) (n + 1) = lw (k + 1) n + 1 := (lw_ok (n + 1) (by omega)).uniq (Lw.mk' (by
          rw [e0]; exact bin_strict (by omega) (by omega) (by omega)) (.inr (by rw [show lw (k + 1) n + 1 - 1 = lw (k + 1) n by omega]; omega)))
        refine ⟨0, Nat.zero_le _, ?_⟩
        rw [rl_succ (n := n + 1) (by omega), e, show k + (lw (k + 1) n + 1) = k + 1 + lw (k + 1) n by omega, ← e0, Nat.sub_self, rl_zero]
        have := rl_sum (k + 1) n (fun h => by omega)
        simp [this]
        omega
/-- just behind a lifetime there is one run -/
theorem rl_edge {k c : Nat} (hk : 1 ≤ k) : rl k (bin (k + c) k) = [bin (k + c) k] := by
  obtain ⟨j, rfl⟩ : ∃ j, k = j + 1 := ⟨k - 1, by omega⟩
  have hp := bin_pos (n := j + 1 + c) (k := j + 1) (by omega)
  have e : lw (j + 1) (bin (j + 1 + c) (j + 1)) = c + 1 := (lw_ok _ (by omega)).uniq (Lw.mk' (bin_strict (by omega) (by omega) (by omega)) (.inr (by rw [show c + 1 - 1 = c by omega]; exact Nat.le_refl _)))
  rw [rl_succ (by omega), e, show j + (c + 1) = j + 1 + c by omega, Nat.sub_self, rl_zero]
/-- each term is a binomial coefficient, with falling upper numbers -/
theorem rl_tops : ∀ k n a : Nat, n < bin a k → ∃ ts : List Nat, ts.length = (rl k n).length ∧ (∀ i t, ts[i]? = some t → (rl k n)[i]? = some (bin t (k - i)) ∧ k - i ≤ t ∧ 1 ≤ k - i ∧ t < a) ∧ ∀ i t u, ts[i]? = some t → ts[i + 1]? = some u → u < t
  | 0, n, a, h => ⟨[], by simp [rl], by simp, by simp⟩
  | k + 1, n, a, h => by
    by_cases hn : n = 0
    · subst hn; exact ⟨[], by rw [rl_zero], by simp, by simp⟩
    · have h1 := lw_pos (k := k + 1) (by omega) hn
      have hlt : k + lw (k + 1) n < a := by
        have h2 := top_le (k := k) hn
        by_cases c : k + lw (k + 1) n < a
        · exact c
        · have := bin_mono (n := a) (m := k + lw (k + 1) n) (k + 1) (by omega); omega
      obtain ⟨ts, e1, e2, e3⟩ := rl_tops k (n - bin (k + lw (k + 1) n) (k + 1)) (k + lw (k + 1) n) (rest_lt hn)
      refine ⟨(k + lw (k + 1) n) :: ts, by rw [rl_succ hn]; simp [e1], ?_, ?_⟩
      · intro i t ht
        cases i with
        | zero =>
          simp only [List.getElem?_cons_zero, Option.some.injEq] at ht
          subst ht
          refine ⟨by rw [rl_succ hn]; rfl, by omega, by omega, hlt⟩
        | succ i =>
          simp only [List.getElem?_cons_succ] at ht
          obtain ⟨g1, g2, g3, g4⟩ := e2 i t ht
          refine ⟨by rw [rl_succ hn, List.getElem?_cons_succ, show k + 1 - (i + 1) = k - i by omega]; exact g1, by omega, by omega, by omega⟩
      · intro i t u ht hu
        cases i with
        | zero =>
          simp only [List.getElem?_cons_zero, Option.some.injEq] at ht
          simp only [List.getElem?_cons_succ] at hu
          subst ht
          exact (e2 0 u hu).2.2.2
        | succ i =>
          simp only [List.getElem?_cons_succ] at ht hu
          exact e3 i t u ht hu
end MB

set_option maxHeartbeats 4000000
namespace MB
/-! ### states: the greatest of the newer runs, what is left -/
def mx : List Nat → Nat
  | [] => 0
  | x :: xs => max x (mx xs)
theorem mx_cons (x : Nat) (xs : List Nat) : mx (x :: xs) = max x (mx xs) := rfl
theorem mx_fold : ∀ (xs : List Nat) (x : Nat), (xs.map (fun (m : Nat) => (m : Int))).foldl max (x : Int) = ((mx (x :: xs) : Nat) : Int)
  | [], x => by simp [mx]
  | y :: ys, x => by
    rw [List.map_cons, List.foldl_cons, show max (x : Int) (y : Int) = ((max x y : Nat) : Int) by omega, mx_fold ys (max x y)]
    simp only [mx]
    omega
theorem mx_le {c : Nat} : ∀ {xs : List Nat}, (∀ x, x ∈ xs → x ≤ c) → mx xs ≤ c
  | [], _ => Nat.zero_le _
  | x :: xs, h => by
    have h1 := h x (List.mem_cons_self ..)
    have h2 := mx_le (c := c) (xs := xs) fun y hy => h y (List.mem_cons_of_mem _ hy)
    rw [mx_cons]; omega
theorem mx_mem {x : Nat} : ∀ {xs : List Nat}, x ∈ xs → x ≤ mx xs
  | y :: ys, h => by
    rw [mx_cons]
    rcases List.mem_cons.mp h with h | h
    · subst h; omega
    · have := mx_mem h; omega
/-- a state within (k, c) -/
def Sta (k c : Nat) (st : List Nat) : Prop := st.length ≤ k ∧ ∀ x, x ∈ st → 1 ≤ x ∧ x ≤ c
theorem Sta.tail {k c x : Nat} {xs : List Nat} (h : Sta k c (x :: xs)) : Sta (k - 1) (mx (x :: xs)) xs :=
  ⟨by have := h.1; rw [List.length_cons] at this; omega, fun y hy => ⟨(h.2 y (List.mem_cons_of_mem _ hy)).1, by have := mx_mem hy; rw [mx_cons]; omega⟩⟩
theorem Sta.mx_le {k c : Nat} {st : List Nat} (h : Sta k c st) : mx st ≤ c := MB.mx_le fun x hx => (h.2 x hx).2
theorem Sta.mx_pos {k c x : Nat} {xs : List Nat} (h : Sta k c (x :: xs)) : 1 ≤ mx (x :: xs) := by
  have := (h.2 x (List.mem_cons_self ..)).1
  rw [mx_cons]; omega
theorem Sta.mono {k c k' c' : Nat} {st : List Nat} (h : Sta k c st) (h1 : k ≤ k') (h2 : c ≤ c') : Sta k' c' st :=
  ⟨by have := h.1; omega, fun x hx => ⟨(h.2 x hx).1, by have := (h.2 x hx).2; omega⟩⟩
/-- as the program adds it up -/
def remv : Nat → Nat → List Nat → Int
  | k, c, [] => (bin (k + c) k : Int) - 1
  | k, c, x :: xs => ((bin (k + c) k : Int) - (bin (k + mx (x :: xs)) k : Int)) + remv (k - 1) (mx (x :: xs)) xs
/-- what each run takes off -/
def brd : Nat → List Nat → Nat
  | _, [] => 0
  | k, x :: xs => bin (k + mx (x :: xs) - 1) k + brd (k - 1) xs
theorem pascal {k m : Nat} (hk : 1 ≤ k) (hm : 1 ≤ m) : bin (k + m) k = bin (k - 1 + m) (k - 1) + bin (k + m - 1) k := by
  obtain ⟨j, rfl⟩ : ∃ j, k = j + 1 := ⟨k - 1, by omega⟩
  rw [show j + 1 + m = (j + m) + 1 by omega, bin_succ, show j + 1 - 1 + m = j + m by omega, show j + 1 - 1 = j by omega, show j + m + 1 - 1 = j + m by omega]
theorem remv_brd : ∀ {k c : Nat} {st : List Nat}, Sta k c st → remv k c st = (bin (k + c) k : Int) - 1 - (brd k st : Int)
  | k, c, [], _ => by simp [remv, brd]
  | k, c, x :: xs, h => by
    have h1 := remv_brd h.tail
    have hk : 1 ≤ k := by have := h.1; rw [List.length_cons] at this; omega
    have hp := pascal hk h.mx_pos
    simp only [remv, brd]
    rw [h1]
    omega
theorem brd_le : ∀ {k c : Nat} {st : List Nat}, Sta k c st → brd k st + 1 ≤ bin (k + c) k
  | k, c, [], _ => by have := bin_pos (n := k + c) (k := k) (by omega); simp [brd]; omega
  | k, c, x :: xs, h => by
    have h1 := brd_le h.tail
    have hk : 1 ≤ k := by have := h.1; rw [List.length_cons] at this; omega
    have hp := pascal hk h.mx_pos
    have hm := bin_mono (n := k + mx (x :: xs)) (m := k + c) k (by have := h.mx_le; omega)
    simp only [brd]
    omega
theorem brd_room : ∀ {k c : Nat} {st : List Nat}, Sta k c st → 1 ≤ c → brd (k + 1) st + 1 ≤ brd k st + bin (k + c) (k + 1)
  | k, c, [], _, hc => by have := bin_pos (n := k + c) (k := k + 1) (by omega); simp [brd]; omega
  | k, c, x :: xs, h, hc => by
    have hk : 1 ≤ k := by have := h.1; rw [List.length_cons] at this; omega
    have h1 := brd_room h.tail h.mx_pos
    obtain ⟨j, rfl⟩ : ∃ j, k = j + 1 := ⟨k - 1, by omega⟩
    have hp := h.mx_pos
    have hm := bin_mono (n := j + 1 + mx (x :: xs)) (m := j + 1 + c) (j + 1 + 1) (by have := h.mx_le; omega)
    simp only [brd]
    rw [show j + 1 + 1 - 1 = j + 1 by omega, show j + 1 - 1 = j by omega] at *
    generalize mx (x :: xs) = M at *
    obtain ⟨m, rfl⟩ : ∃ m, M = m + 1 := ⟨M - 1, by omega⟩
    have e1 : bin (j + 1 + 1 + (m + 1) - 1) (j + 1 + 1) = bin (j + (m + 1)) (j + 1) + bin (j + 1 + m) (j + 1 + 1) := by
      rw [show j + 1 + 1 + (m + 1) - 1 = (j + m + 1) + 1 by omega, bin_succ, show j + m + 1 = j + (m + 1) by omega, show j + 1 + m = j + (m + 1) by omega]
    have e2 : bin (j + 1 + (m + 1)) (j + 1 + 1) = bin (j + (m + 1)) (j + 1) + bin (j + 1 + m) (j + 1 + 1) := by
      rw [show j + 1 + (m + 1) = (j + (m + 1)) + 1 by omega, bin_succ, show j + 1 + m = j + (m + 1) by omega]
    rw [show j + 1 + (m + 1) - 1 = j + (m + 1) by omega]
    omega
/-- element by element at most -/
def Le2 : List Nat → List Nat → Prop
  | [], _ => True
  | _ :: _, [] => False
  | x :: xs, y :: ys => x ≤ y ∧ Le2 xs ys
theorem Le2.refl : ∀ xs : List Nat, Le2 xs xs
  | [] => trivial
  | _ :: xs => ⟨Nat.le_refl _, Le2.refl xs⟩
theorem Le2.mx : ∀ {xs ys : List Nat}, Le2 xs ys → mx xs ≤ mx ys
  | [], _, _ => Nat.zero_le _
  | _ :: _, _ :: _, h => by
    have := Le2.mx h.2
    have := h.1
    rw [mx_cons, mx_cons]; omega
theorem Le2.brd : ∀ {k : Nat} {xs ys : List Nat}, Le2 xs ys → brd k xs ≤ brd k ys
  | _, [], _, _ => Nat.zero_le _
  | k, x :: xs, y :: ys, h => by
    have h1 := Le2.brd (k := k - 1) h.2
    have h2 := Le2.mx (xs := x :: xs) (ys := y :: ys) h
    have h3 := bin_mono (n := k + MB.mx (x :: xs) - 1) (m := k + MB.mx (y :: ys) - 1) k (by omega)
    simp only [MB.brd]
    omega
theorem Le2.dropLast : ∀ xs : List Nat, Le2 xs.dropLast xs
  | [] => trivial
  | [_] => trivial
  | x :: y :: xs => ⟨Nat.le_refl _, Le2.dropLast (y :: xs)⟩
theorem Le2.set : ∀ {xs : List Nat} {i v x : Nat}, xs[i]? = some x → v ≤ x → Le2 (xs.set i v) xs
  | [], i, v, x, h, _ => by simp at h
  | y :: ys, 0, v, x, h, hv => by
    simp at h; subst h
    exact ⟨hv, Le2.refl _⟩
  | y :: ys, i + 1, v, x, h, hv => ⟨Nat.le_refl _, Le2.set (by simpa using h) hv⟩
theorem brd_tail : ∀ {k x : Nat} {xs : List Nat}, brd k xs ≤ brd k (x :: xs)
  | k, x, [] => Nat.zero_le _
  | k, x, y :: ys => by
    have h1 := brd_tail (k := k - 1) (x := y) (xs := ys)
    have h3 := bin_mono (n := k + mx (y :: ys) - 1) (m := k + mx (x :: y :: ys) - 1) k (by simp only [mx]; omega)
    show bin (k + mx (y :: ys) - 1) k + brd (k - 1) ys ≤ bin (k + mx (x :: y :: ys) - 1) k + brd (k - 1) (y :: ys)
    omega
end MB

set_option maxHeartbeats 4000000
namespace MB
/-- the state after a flush that merges m runs -/
def sa (st : List Nat) (m : Nat) : List Nat := st.take (st.length - m) ++ [1 + mx (st.drop (st.length - m))]
theorem mx_append : ∀ xs ys : List Nat, mx (xs ++ ys) = max (mx xs) (mx ys)
  | [], ys => by simp [mx]
  | x :: xs, ys => by rw [List.cons_append, mx_cons, mx_cons, mx_append xs ys]; omega
theorem sa_all (st : List Nat) : sa st st.length = [1 + mx st] := by simp [sa]
theorem sa_cons {x : Nat} {xs : List Nat} {m : Nat} (h : m ≤ xs.length) : sa (x :: xs) m = x :: sa xs m := by
  unfold sa
  rw [List.length_cons, show xs.length + 1 - m = (xs.length - m) + 1 by omega]
  simp
theorem sa_len {st : List Nat} {m : Nat} (h : m ≤ st.length) : (sa st m).length = st.length - m + 1 := by
  unfold sa
  rw [List.length_append, List.length_take]
  simp
theorem sa_mx {st : List Nat} {m : Nat} : mx st ≤ mx (sa st m) := by
  unfold sa
  rw [mx_append]
  have h := mx_append (st.take (st.length - m)) (st.drop (st.length - m))
  rw [List.take_append_drop] at h
  simp only [mx]
  omega
/-- elements from 1 on, as many as there is room for -/
def Pos (k : Nat) (st : List Nat) : Prop := st.length ≤ k ∧ ∀ x, x ∈ st → 1 ≤ x
theorem Sta.pos {k c : Nat} {st : List Nat} (h : Sta k c st) : Pos k st := ⟨h.1, fun x hx => (h.2 x hx).1⟩
theorem Pos.sta {k : Nat} {st : List Nat} (h : Pos k st) : Sta k (mx st) st := ⟨h.1, fun x hx => ⟨h.2 x hx, mx_mem hx⟩⟩
theorem Pos.tail {k x : Nat} {xs : List Nat} (h : Pos k (x :: xs)) : Pos (k - 1) xs ∧ 1 ≤ k ∧ 1 ≤ x :=
  ⟨⟨by have := h.1; rw [List.length_cons] at this; omega, fun y hy => h.2 y (List.mem_cons_of_mem _ hy)⟩, by have := h.1; rw [List.length_cons] at this; omega, h.2 x (List.mem_cons_self ..)⟩
theorem brd_one (k v : Nat) : brd k [1 + v] = bin (k + v) k := by
  simp only [brd, mx]
  rw [show k + max (1 + v) 0 - 1 = k + v by omega]; rfl
/-- every flush costs at least one -/
theorem brd_sa : ∀ {k : Nat} {st : List Nat} {m : Nat}, Pos k st → m ≤ st.length → brd k st + 1 ≤ brd k (sa st m)
  | k, [], m, h, hm => by
    have : m = 0 := by simpa using hm
    subst this
    show brd k [] + 1 ≤ brd k [1 + 0]
    rw [brd_one, show k + 0 = k by omega, bin_self]
    simp [brd]
  | k, x :: xs, m, h, hm => by
    by_cases e : m = xs.length + 1
    · subst e
      rw [show xs.length + 1 = (x :: xs).length from rfl, sa_all, brd_one]
      exact brd_le h.sta
    · have hm' : m ≤ xs.length := by rw [List.length_cons] at hm; omega
      obtain ⟨h1, hk, hx⟩ := h.tail
      have ih := brd_sa h1 hm'
      rw [sa_cons hm']
      have hm2 := sa_mx (st := xs) (m := m)
      have hb := bin_mono (n := k + mx (x :: xs) - 1) (m := k + mx (x :: sa xs m) - 1) k (by rw [mx_cons, mx_cons]; omega)
      simp only [brd]
      omega
/-- what stands before the merged runs is greater than they are; these are exhausted -/
def Tight (k : Nat) (st : List Nat) (j : Nat) : Prop := (j = 0 ∨ ∃ y, st[j - 1]? = some y ∧ mx (st.drop j) < y) ∧ brd (k - j) (st.drop j) + 1 = bin (k - j + mx (st.drop j)) (k - j)
theorem brd_sa_eq : ∀ {k : Nat} {st : List Nat} {m : Nat}, Pos k st → m ≤ st.length → (brd k (sa st m) = brd k st + 1 ↔ Tight k st (st.length - m))
  | k, [], m, h, hm => by
    have : m = 0 := by simpa using hm
    subst this
    have e1 : brd k (sa [] 0) = 1 := by
      show brd k [1 + 0] = 1
      rw [brd_one, show k + 0 = k by omega, bin_self]
    rw [e1]
    refine ⟨fun _ => ⟨.inl rfl, ?_⟩, fun _ => by simp [brd]⟩
    simp only [List.drop_nil, mx, brd, List.length_nil]
    rw [show k - (0 - 0) + 0 = k - (0 - 0) by omega, bin_self]
  | k, x :: xs, m, h, hm => by
    by_cases e : m = xs.length + 1
    · subst e
      rw [show xs.length + 1 = (x :: xs).length from rfl, sa_all, brd_one, Nat.sub_self]
      constructor
      · intro e
        refine ⟨.inl rfl, ?_⟩
        simp only [Nat.sub_zero, List.drop_zero]
        omega
      · rintro ⟨_, e⟩
        simp only [Nat.sub_zero, List.drop_zero] at e
        omega
    · have hm' : m ≤ xs.length := by rw [List.length_cons] at hm; omega
      obtain ⟨h1, hk, hx⟩ := h.tail
      have ih := brd_sa_eq h1 hm'
      have ih1 := brd_sa h1 hm'
      rw [sa_cons hm']
      have hm2 := sa_mx (st := xs) (m := m)
      have hb := bin_mono (n := k + mx (x :: xs) - 1) (m := k + mx (x :: sa xs m) - 1) k (by rw [mx_cons, mx_cons]; omega)
      have hJ : (x :: xs).length - m = (xs.length - m) + 1 := by rw [List.length_cons]; omega
      rw [hJ]
      have hd : (x :: xs).drop (xs.length - m + 1) = xs.drop (xs.length - m) := rfl
      have hkk : k - (xs.length - m + 1) = k - 1 - (xs.length - m) := by omega
      have e1 : brd k (x :: sa xs m) = bin (k + mx (x :: sa xs m) - 1) k + brd (k - 1) (sa xs m) := rfl
      have e2 : brd k (x :: xs) = bin (k + mx (x :: xs) - 1) k + brd (k - 1) xs := rfl
      have step : brd k (x :: sa xs m) = brd k (x :: xs) + 1 ↔ (mx (x :: sa xs m) = mx (x :: xs) ∧ brd (k - 1) (sa xs m) = brd (k - 1) xs + 1) := by
        constructor
        · intro e
          have hq : bin (k + mx (x :: sa xs m) - 1) k = bin (k + mx (x :: xs) - 1) k := by omega
          refine ⟨?_, by omega⟩
          by_cases c : mx (x :: sa xs m) = mx (x :: xs)
          · exact c
          · have h0 : 1 ≤ mx (x :: xs) := by rw [mx_cons]; omega
            have h00 : mx (x :: xs) < mx (x :: sa xs m) := by rw [mx_cons, mx_cons] at c ⊢; omega
            have := bin_strict (n := k + mx (x :: xs) - 1) (m := k + mx (x :: sa xs m) - 1) (k := k) hk (by omega) (by omega)
            omega
        · rintro ⟨c1, c2⟩
          rw [e1, e2, c1, c2]; omega
      rw [step, ih]
      unfold Tight
      rw [hd, hkk]
      have hdec : mx xs = max (mx (xs.take (xs.length - m))) (mx (xs.drop (xs.length - m))) := by
        rw [← mx_append, List.take_append_drop]
      have hsa : mx (sa xs m) = max (mx (xs.take (xs.length - m))) (1 + mx (xs.drop (xs.length - m))) := by
        unfold sa; rw [mx_append]; simp [mx]
      constructor
      · rintro ⟨c1, c2, c3⟩
        refine ⟨.inr ?_, c3⟩
        rcases c2 with c2 | ⟨y, y1, y2⟩
        · rw [c2] at hsa hdec ⊢
          simp only [List.take_zero, mx] at hsa hdec
          refine ⟨x, rfl, ?_⟩
          rw [mx_cons, mx_cons] at c1
          omega
        · by_cases z : xs.length - m = 0
          · rw [z] at hsa hdec ⊢
            simp only [List.take_zero, mx] at hsa hdec
            refine ⟨x, rfl, ?_⟩
            rw [mx_cons, mx_cons] at c1
            omega
          · refine ⟨y, ?_, y2⟩
            rw [show xs.length - m + 1 - 1 = (xs.length - m - 1) + 1 by omega, List.getElem?_cons_succ]
            exact y1
      · rintro ⟨c2, c3⟩
        rcases c2 with c2 | ⟨y, y1, y2⟩
        · omega
        · by_cases z : xs.length - m = 0
          · rw [z] at y1 y2 hsa hdec c3 ⊢
            simp only [List.take_zero, mx] at hsa hdec
            have : y = x := by simpa using y1.symm
            subst this
            refine ⟨by rw [mx_cons, mx_cons]; omega, .inl rfl, c3⟩
          · rw [show xs.length - m + 1 - 1 = (xs.length - m - 1) + 1 by omega, List.getElem?_cons_succ] at y1
            have hy : y ≤ mx (xs.take (xs.length - m)) := by
              refine mx_mem (List.mem_of_getElem? (i := xs.length - m - 1) ?_)
              rw [List.getElem?_take, if_pos (by omega)]; exact y1
            refine ⟨by rw [mx_cons, mx_cons]; omega, .inr ⟨y, y1, y2⟩, c3⟩
/-- nothing is left: no room, and the newest run at the limit -/
theorem exh_iff : ∀ {k R : Nat} {xs : List Nat}, Sta k R xs → (brd k xs + 1 = bin (k + R) k ↔ (R = 0 ∨ (xs.length = k ∧ ∀ y, xs.getLast? = some y → y = R)))
  | k, R, [], h => by
    simp only [brd, List.length_nil, List.getLast?_nil]
    constructor
    · intro e
      by_cases hR : R = 0
      · exact .inl hR
      · refine .inr ⟨?_, by simp⟩
        by_cases hk : k = 0
        · exact hk.symm
        · have := bin_big (k := k) (c := R) (by omega); omega
    · rintro (rfl | ⟨rfl, _⟩)
      · show 0 + 1 = bin k k
        rw [bin_self]
      · rw [bin_zero]
  | k, R, x :: xs, h => by
    have hk : 1 ≤ k := by have := h.1; rw [List.length_cons] at this; omega
    have hM := h.mx_pos
    have hMR := h.mx_le
    have ht := h.tail
    have hp := pascal hk hM
    have hle := brd_le ht
    have e2 : brd k (x :: xs) = bin (k + mx (x :: xs) - 1) k + brd (k - 1) xs := rfl
    have hR : R ≠ 0 := by omega
    have key : brd k (x :: xs) + 1 = bin (k + R) k ↔ (mx (x :: xs) = R ∧ brd (k - 1) xs + 1 = bin (k - 1 + R) (k - 1)) := by
      constructor
      · intro e
        have hmm : mx (x :: xs) = R := by
          by_cases c : mx (x :: xs) = R
          · exact c
          · have := bin_strict (n := k + mx (x :: xs)) (m := k + R) (k := k) hk (by omega) (by omega)
            omega
        rw [hmm] at hp e2
        exact ⟨hmm, by omega⟩
      · rintro ⟨c1, c2⟩
        rw [c1] at hp e2
        omega
    rw [key]
    constructor
    · rintro ⟨c1, c2⟩
      rw [c1] at ht
      rcases (exh_iff ht).mp c2 with c | ⟨c3, c4⟩
      · exact absurd c hR
      · refine .inr ⟨by rw [List.length_cons]; omega, fun y hy => ?_⟩
        cases xs with
        | nil =>
          have : y = x := by simpa using hy.symm
          subst this
          simpa [mx] using c1
        | cons z zs =>
          rw [List.getLast?_cons_cons] at hy
          exact c4 y hy
    · rintro (c | ⟨c3, c4⟩)
      · exact absurd c hR
      · have hlast : ∃ y, (x :: xs).getLast? = some y := ⟨(x :: xs).getLast (by simp), List.getLast?_eq_some_getLast (by simp)⟩
        obtain ⟨y, hy⟩ := hlast
        have hyR := c4 y hy
        subst hyR
        have hmm : mx (x :: xs) = y := by
          have := mx_mem (List.mem_of_getLast? hy)
          omega
        refine ⟨hmm, ?_⟩
        rw [hmm] at ht
        refine (exh_iff ht).mpr (.inr ⟨by rw [List.length_cons] at c3; omega, fun z hz => ?_⟩)
        cases xs with
        | nil => simp at hz
        | cons u us =>
          rw [List.getLast?_cons_cons] at hy
          rw [hz] at hy
          exact Option.some.inj hy
/-- the bound of what is merged: the next older run, or the limit of writes -/
def bnd (c : Nat) (st : List Nat) (j : Nat) : Nat := (c :: st).getD j 0
def tst (c : Nat) (st : List Nat) (m : Nat) : Prop := mx (st.drop (st.length - m)) < bnd c st (st.length - m)
def few (k : Nat) (st : List Nat) : Nat := if st.length < k then 0 else 1
/-- what best_merge returns -/
def Bm (k c : Nat) (st : List Nat) (m : Nat) : Prop := few k st ≤ m ∧ m ≤ st.length ∧ tst c st m ∧ ∀ m', few k st ≤ m' → m' < m → ¬ tst c st m'
def BmN (k c : Nat) (st : List Nat) : Prop := ∀ m, few k st ≤ m → m ≤ st.length → ¬ tst c st m
theorem bnd_zero {c : Nat} {st : List Nat} : bnd c st 0 = c := rfl
theorem bnd_succ {c j : Nat} {st : List Nat} {y : Nat} (h : st[j]? = some y) : bnd c st (j + 1) = y := by
  simp [bnd, List.getD_eq_getElem?_getD, h]
/-- while no test holds, the greatest of the merged runs is the newest one -/
theorem chain {c : Nat} {st : List Nat} {m : Nat} (hm : m ≤ st.length) (hno : ∀ m', 1 ≤ m' → m' < m → ¬ tst c st m') (h1 : 1 ≤ m) : ∀ y, st.getLast? = some y → mx (st.drop (st.length - m)) = y := by
  induction m with
  | zero => omega
  | succ m ih =>
    intro y hy
    by_cases hm0 : m = 0
    · subst hm0
      have hne : st ≠ [] := by intro e; subst e; simp at hy
      have hpos := List.length_pos_iff.mpr hne
      have e : st.drop (st.length - (0 + 1)) = [st.getLast hne] := by
        rw [List.drop_eq_getElem_cons (show st.length - (0 + 1) < st.length by omega), show st.length - (0 + 1) + 1 = st.length by omega, List.drop_length, List.getLast_eq_getElem]
      rw [e]
      rw [List.getLast?_eq_some_getLast hne] at hy
      have := Option.some.inj hy
      simp [mx, this]
    · have ih' := ih (by omega) (fun m' a b => hno m' a (by omega)) (by omega) y hy
      have hf := hno m (by omega) (by omega)
      have hj : st.length - m = (st.length - (m + 1)) + 1 := by omega
      have hlt : st.length - (m + 1) < st.length := by omega
      have ed : st.drop (st.length - (m + 1)) = st[st.length - (m + 1)] :: st.drop (st.length - m) := by
        rw [hj]; exact List.drop_eq_getElem_cons hlt
      unfold tst at hf
      rw [hj, bnd_succ (List.getElem?_eq_getElem hlt), ← hj] at hf
      rw [ed, mx_cons]
      omega
theorem last_mem {st : List Nat} {y : Nat} (h : st.getLast? = some y) : y ∈ st := List.mem_of_getLast? h
theorem sa_sta {k c : Nat} {st : List Nat} {m : Nat} (h : Sta k c st) (hm : m ≤ st.length) (h1 : st.length - m + 1 ≤ k) (h2 : 1 + mx (st.drop (st.length - m)) ≤ c) : Sta k c (sa st m) := by
  refine ⟨by rw [sa_len hm]; exact h1, fun x hx => ?_⟩
  unfold sa at hx
  rcases List.mem_append.mp hx with hx | hx
  · exact h.2 x (List.mem_of_mem_take hx)
  · have : x = 1 + mx (st.drop (st.length - m)) := by simpa using hx
    subst this
    omega
theorem tst_ok {k c : Nat} {st : List Nat} {m : Nat} (h : Sta k c st) (hm : m ≤ st.length) (ht : tst c st m) : 1 + mx (st.drop (st.length - m)) ≤ c ∧ (st.length - m = 0 ∨ ∃ y, st[st.length - m - 1]? = some y ∧ mx (st.drop (st.length - m)) < y) := by
  unfold tst at ht
  by_cases hj : st.length - m = 0
  · rw [hj, bnd_zero] at ht
    exact ⟨by rw [hj]; omega, .inl hj⟩
  · have hlt : st.length - m - 1 < st.length := by omega
    have e : st.length - m = (st.length - m - 1) + 1 := by omega
    have hb := bnd_succ (c := c) (List.getElem?_eq_getElem hlt)
    rw [← e] at hb
    rw [hb] at ht
    have := h.2 _ (List.getElem_mem hlt)
    exact ⟨by omega, .inr ⟨_, List.getElem?_eq_getElem hlt, ht⟩⟩
theorem Bm.good {k c : Nat} {st : List Nat} {m : Nat} (h : Sta k c st) (b : Bm k c st m) : Sta k c (sa st m) ∧ brd k (sa st m) = brd k st + 1 := by
  obtain ⟨b1, b2, b3, b4⟩ := b
  obtain ⟨t1, t2⟩ := tst_ok h b2 b3
  have hl := h.1
  by_cases hk : st.length < k
  · have hf : few k st = 0 := if_pos hk
    have hm0 : m = 0 := by
      by_cases c0 : m = 0
      · exact c0
      · exfalso
        refine b4 0 (by omega) (by omega) ?_
        unfold tst
        rw [Nat.sub_zero, List.drop_length]
        have hlt : st.length - 1 < st.length := by omega
        have e : st.length = (st.length - 1) + 1 := by omega
        have hb := bnd_succ (c := c) (List.getElem?_eq_getElem hlt)
        rw [← e] at hb
        rw [hb]
        exact (h.2 _ (List.getElem_mem hlt)).1
    subst hm0
    refine ⟨sa_sta h b2 (by omega) t1, (brd_sa_eq h.pos b2).mpr ⟨t2, ?_⟩⟩
    rw [Nat.sub_zero, List.drop_length]
    show 0 + 1 = bin (k - st.length) (k - st.length)
    rw [bin_self]
  · have hf : few k st = 1 := if_neg hk
    rw [hf] at b1 b4
    refine ⟨sa_sta h b2 (by omega) t1, (brd_sa_eq h.pos b2).mpr ⟨t2, ?_⟩⟩
    have hne : st ≠ [] := by intro e; subst e; simp at b2; omega
    have hy : st.getLast? = some (st.getLast hne) := List.getLast?_eq_some_getLast hne
    have hc := chain b2 b4 b1 _ hy
    have hS : Sta (k - (st.length - m)) (mx (st.drop (st.length - m))) (st.drop (st.length - m)) :=
      ⟨by rw [List.length_drop]; omega, fun x hx => ⟨(h.2 x (List.mem_of_mem_drop hx)).1, mx_mem hx⟩⟩
    refine (exh_iff hS).mpr (.inr ⟨by rw [List.length_drop]; omega, fun y hy2 => ?_⟩)
    rw [hc]
    rw [List.getLast?_drop, if_neg (by omega), hy] at hy2
    exact (Option.some.inj hy2).symm
theorem BmN.zero {k c : Nat} {st : List Nat} (h : Sta k c st) (b : BmN k c st) : brd k st + 1 = bin (k + c) k := by
  have hl := h.1
  refine (exh_iff h).mpr ?_
  by_cases hk : st.length < k
  · have hf : few k st = 0 := if_pos hk
    have h0 := b 0 (by omega) (by omega)
    unfold tst at h0
    rw [Nat.sub_zero, List.drop_length] at h0
    by_cases hn : st.length = 0
    · rw [hn, bnd_zero] at h0
      simp only [mx] at h0
      exact .inl (by omega)
    · exfalso
      have hlt : st.length - 1 < st.length := by omega
      have e : st.length = (st.length - 1) + 1 := by omega
      have hb := bnd_succ (c := c) (List.getElem?_eq_getElem hlt)
      rw [← e] at hb
      rw [hb] at h0
      have := (h.2 _ (List.getElem_mem hlt)).1
      simp only [mx] at h0
      omega
  · have hf : few k st = 1 := if_neg hk
    refine .inr ⟨by omega, fun y hy => ?_⟩
    have hne : st ≠ [] := by intro e; subst e; simp at hy
    have h1 : 1 ≤ st.length := by have := List.length_pos_iff.mpr hne; omega
    have hc := chain (c := c) (Nat.le_refl _) (fun m' a b' => b m' (by omega) (by omega)) h1 y hy
    have hlast := b st.length (by omega) (Nat.le_refl _)
    unfold tst at hlast
    rw [Nat.sub_self, bnd_zero] at hlast
    rw [Nat.sub_self] at hc
    have := (h.2 y (last_mem hy)).2
    omega
/-- only one merge costs just one -/
theorem good_uniq {k c : Nat} {st : List Nat} {m n : Nat} (h : Sta k c st) (hm : m ≤ st.length) (hn : n ≤ st.length) (s1 : Sta k c (sa st m)) (s2 : Sta k c (sa st n)) (e1 : brd k (sa st m) = brd k st + 1) (e2 : brd k (sa st n) = brd k st + 1) : m = n := by
  have hl := h.1
  have look : ∀ m, m ≤ st.length → Sta k c (sa st m) → brd k (sa st m) = brd k st + 1 → (m = 0 ∧ st.length < k) ∨ (1 ≤ m ∧ st.length = k ∧ (∀ y, st.getLast? = some y → y = mx (st.drop (st.length - m))) ∧ (st.length - m = 0 ∨ ∃ y, st[st.length - m - 1]? = some y ∧ mx (st.drop (st.length - m)) < y)) := fun m hm s e => by
    obtain ⟨t1, t2⟩ := (brd_sa_eq h.pos hm).mp e
    have hs := s.1
    rw [sa_len hm] at hs
    by_cases h0 : m = 0
    · exact .inl ⟨h0, by omega⟩
    · refine .inr ⟨by omega, ?_⟩
      have hS : Sta (k - (st.length - m)) (mx (st.drop (st.length - m))) (st.drop (st.length - m)) :=
        ⟨by rw [List.length_drop]; omega, fun x hx => ⟨(h.2 x (List.mem_of_mem_drop hx)).1, mx_mem hx⟩⟩
      rcases (exh_iff hS).mp t2 with c | ⟨c1, c2⟩
      · exfalso
        have hlt : st.length - m < st.length := by omega
        have hmem : st[st.length - m] ∈ st.drop (st.length - m) := by
          rw [List.drop_eq_getElem_cons hlt]; exact List.mem_cons_self ..
        have := mx_mem hmem
        have := (h.2 _ (List.getElem_mem hlt)).1
        omega
      · rw [List.length_drop] at c1
        refine ⟨by omega, fun y hy => c2 y ?_, t1⟩
        rw [List.getLast?_drop, if_neg (by omega)]; exact hy
  have order : ∀ m n, m ≤ st.length → n ≤ st.length → m < n → Sta k c (sa st m) → Sta k c (sa st n) → brd k (sa st m) = brd k st + 1 → brd k (sa st n) = brd k st + 1 → False := fun m n hm hn hlt s1 s2 e1 e2 => by
    rcases look m hm s1 e1 with ⟨a1, a2⟩ | ⟨a1, a2, a3, a4⟩
    · rcases look n hn s2 e2 with ⟨b1, b2⟩ | ⟨b1, b2, b3, b4⟩ <;> omega
    · rcases look n hn s2 e2 with ⟨b1, b2⟩ | ⟨b1, b2, b3, b4⟩
      · omega
      · have hne : st ≠ [] := by intro e; subst e; simp at hn; omega
        have hy : st.getLast? = some (st.getLast hne) := List.getLast?_eq_some_getLast hne
        have q1 := a3 _ hy
        have q2 := b3 _ hy
        rcases a4 with a4 | ⟨y, y1, y2⟩
        · omega
        · have hmem : y ∈ st.drop (st.length - n) := by
            refine List.mem_of_getElem? (i := (st.length - m - 1) - (st.length - n)) ?_
            rw [List.getElem?_drop, show st.length - n + (st.length - m - 1 - (st.length - n)) = st.length - m - 1 by omega]
            exact y1
          have := mx_mem hmem
          omega
  rcases Nat.lt_trichotomy m n with c | c | c
  · exact (order m n hm hn c s1 s2 e1 e2).elim
  · exact c
  · exact (order n m hn hm c s2 s1 e2 e1).elim
end MB

set_option maxHeartbeats 4000000
namespace MB
/-- no newer run is above an older one -/
def Desc (st : List Nat) : Prop := st.Pairwise fun x y => y ≤ x
theorem Desc.mx {x : Nat} {xs : List Nat} (h : Desc (x :: xs)) : mx (x :: xs) = x := by
  have h1 := (List.pairwise_cons.mp h).1
  have := MB.mx_le (c := x) h1
  rw [mx_cons]; omega
theorem Desc.tail {x : Nat} {xs : List Nat} (h : Desc (x :: xs)) : Desc xs := (List.pairwise_cons.mp h).2
/-- the lengths of the runs -/
def lens : Nat → List Nat → List Nat
  | _, [] => []
  | k, x :: xs => bin (k + x - 1) k :: lens (k - 1) xs
theorem lens_len : ∀ (k : Nat) (st : List Nat), (lens k st).length = st.length
  | _, [] => rfl
  | k, x :: xs => by simp [lens, lens_len (k - 1) xs]
theorem lw_desc {k x : Nat} {xs : List Nat} (h : Pos k (x :: xs)) (d : Desc (x :: xs)) : lw k (brd k (x :: xs)) = x := by
  obtain ⟨h1, hk, hx⟩ := h.tail
  have hb := brd_le h.sta
  have e : brd k (x :: xs) = bin (k + mx (x :: xs) - 1) k + brd (k - 1) xs := rfl
  rw [d.mx] at hb e
  refine (lw_ok _ hk).uniq (Lw.mk' (by omega) (.inr ?_))
  rw [show k + (x - 1) = k + x - 1 by omega]
  omega
theorem rl_desc : ∀ {k : Nat} {st : List Nat}, Pos k st → Desc st → rl k (brd k st) = lens k st
  | k, [], _, _ => by simp [brd, lens, rl_zero]
  | k, x :: xs, h, d => by
    have hl := lw_desc h d
    obtain ⟨h1, hk, hx⟩ := h.tail
    have ih := rl_desc h1 d.tail
    have e : brd k (x :: xs) = bin (k + x - 1) k + brd (k - 1) xs := by
      show bin (k + mx (x :: xs) - 1) k + brd (k - 1) xs = _
      rw [d.mx]
    obtain ⟨j, rfl⟩ : ∃ j, k = j + 1 := ⟨k - 1, by omega⟩
    have hp := bin_pos (n := j + 1 + x - 1) (k := j + 1) (by omega)
    have hne : brd (j + 1) (x :: xs) ≠ 0 := by omega
    rw [rl_succ hne, hl]
    have e2 : j + x = j + 1 + x - 1 := by omega
    rw [e2, e]
    show _ :: _ = bin (j + 1 + x - 1) (j + 1) :: lens (j + 1 - 1) xs
    rw [show bin (j + 1 + x - 1) (j + 1) + brd (j + 1 - 1) xs - bin (j + 1 + x - 1) (j + 1) = brd (j + 1 - 1) xs by omega, show j + 1 - 1 = j by omega]
    rw [show j + 1 - 1 = j by omega] at ih
    rw [ih]
theorem rl_desc_len {k : Nat} {st : List Nat} (h : Pos k st) (d : Desc st) : (rl k (brd k st)).length = st.length := by rw [rl_desc h d, lens_len]
theorem sa_desc {st : List Nat} {m : Nat} (d : Desc st) (hm : m ≤ st.length) (t : st.length - m = 0 ∨ ∃ y, st[st.length - m - 1]? = some y ∧ mx (st.drop (st.length - m)) < y) : Desc (sa st m) := by
  unfold sa Desc
  refine List.pairwise_append.mpr ⟨d.sublist (List.take_sublist _ _), List.pairwise_singleton _ _, fun x hx v hv => ?_⟩
  have hv' : v = 1 + mx (st.drop (st.length - m)) := by simpa using hv
  subst hv'
  rcases t with t | ⟨y, y1, y2⟩
  · rw [t] at hx; simp at hx
  · obtain ⟨i, hi⟩ := List.getElem?_of_mem hx
    rw [List.getElem?_take] at hi
    by_cases c : i < st.length - m
    · rw [if_pos c] at hi
      have hyx : y ≤ x := by
        by_cases e : i = st.length - m - 1
        · subst e; rw [y1] at hi; have := Option.some.inj hi; omega
        · obtain ⟨q1, r1⟩ := List.getElem?_eq_some_iff.mp hi
          obtain ⟨q2, r2⟩ := List.getElem?_eq_some_iff.mp y1
          have := List.pairwise_iff_getElem.mp d i (st.length - m - 1) q1 q2 (by omega)
          omega
      omega
    · rw [if_neg c] at hi; cases hi
theorem Bm.tight {k c : Nat} {st : List Nat} {m : Nat} (h : Sta k c st) (b : Bm k c st m) : st.length - m = 0 ∨ ∃ y, st[st.length - m - 1]? = some y ∧ mx (st.drop (st.length - m)) < y := (tst_ok h b.2.1 b.2.2.1).2
/-- the policy's merges and states -/
def pm (k n : Nat) : Nat := (rl k n).length + 1 - (rl k (n + 1)).length
def pst (k : Nat) : Nat → List Nat
  | 0 => []
  | n + 1 => sa (pst k n) (pm k n)
theorem bm_ex {k c : Nat} {st : List Nat} (h : Sta k c st) (hlt : brd k st + 1 < bin (k + c) k) : ∃ m, Bm k c st m := by
  by_cases e : ∃ m, few k st ≤ m ∧ m ≤ st.length ∧ tst c st m
  · obtain ⟨m, hm⟩ := e
    induction m using Nat.strongRecOn with
    | ind m ih =>
      by_cases c' : ∃ m', m' < m ∧ few k st ≤ m' ∧ m' ≤ st.length ∧ tst c st m'
      · obtain ⟨m', h1, h2⟩ := c'
        exact ih m' h1 h2
      · exact ⟨m, hm.1, hm.2.1, hm.2.2, fun m' a b t => c' ⟨m', b, a, by have := hm.2.1; omega, t⟩⟩
  · exfalso
    have := BmN.zero h fun m a b t => e ⟨m, a, b, t⟩
    omega
/-- the best merge from a descending state is the policy's -/
theorem bm_pm {k c : Nat} {st : List Nat} {m : Nat} (h : Sta k c st) (d : Desc st) (b : Bm k c st m) : m = pm k (brd k st) ∧ Sta k c (sa st m) ∧ Desc (sa st m) ∧ brd k (sa st m) = brd k st + 1 := by
  obtain ⟨g1, g2⟩ := b.good h
  have d2 := sa_desc d b.2.1 (b.tight h)
  refine ⟨?_, g1, d2, g2⟩
  unfold pm
  rw [rl_desc_len h.pos d, ← g2, rl_desc_len g1.pos d2, sa_len b.2.1]
  have := b.2.1
  omega
theorem sta_of {k c : Nat} {st : List Nat} (h : Pos k st) (d : Desc st) (hc : brd k st < bin (k + c) k) : Sta k c st := by
  refine ⟨h.1, fun x hx => ⟨h.2 x hx, ?_⟩⟩
  cases st with
  | nil => cases hx
  | cons y ys =>
    have h1 := lw_desc h d
    have h2 := mx_mem hx
    rw [d.mx] at h2
    obtain ⟨_, hk, _⟩ := h.tail
    have h3 := (lw_ok (brd k (y :: ys)) hk).2
    rw [h1] at h3
    by_cases e : y ≤ c
    · omega
    · have := h3 c (by omega); omega
theorem pst_ok {k : Nat} (hk : 1 ≤ k) : ∀ n, Pos k (pst k n) ∧ Desc (pst k n) ∧ brd k (pst k n) = n
  | 0 => ⟨⟨by simp [pst], by simp [pst]⟩, List.Pairwise.nil, rfl⟩
  | n + 1 => by
    obtain ⟨h1, h2, h3⟩ := pst_ok hk n
    have hb := bin_big (k := k) (c := n + 2) hk
    have hs := sta_of (c := n + 2) h1 h2 (by omega)
    obtain ⟨m, b⟩ := bm_ex hs (by omega)
    obtain ⟨e, g1, g2, g3⟩ := bm_pm hs h2 b
    rw [h3] at e g3
    subst e
    exact ⟨g1.pos, g2, g3⟩
theorem pm_le {k : Nat} (hk : 1 ≤ k) (n : Nat) : pm k n ≤ (pst k n).length := by
  obtain ⟨h1, h2, h3⟩ := pst_ok hk n
  have hb := bin_big (k := k) (c := n + 2) hk
  have hs := sta_of (c := n + 2) h1 h2 (by omega)
  obtain ⟨m, b⟩ := bm_ex hs (by omega)
  obtain ⟨e, _⟩ := bm_pm hs h2 b
  rw [h3] at e
  subst e
  exact b.2.1
theorem pst_len {k : Nat} (hk : 1 ≤ k) (n : Nat) : (pst k n).length = (rl k n).length := by
  obtain ⟨h1, h2, h3⟩ := pst_ok hk n
  have := rl_desc_len h1 h2
  rw [h3] at this
  exact this.symm
theorem pm_int {k : Nat} (hk : 1 ≤ k) (n : Nat) : ((rl k n).length : Int) + 1 - ((rl k (n + 1)).length : Int) = (pm k n : Int) := by
  have h1 := pst_len hk n
  have h2 := pst_len hk (n + 1)
  have h3 := pm_le hk n
  have h4 : (pst k (n + 1)).length = (pst k n).length - pm k n + 1 := sa_len h3
  unfold pm at *
  omega
end MB

set_option maxHeartbeats 4000000
namespace MB
open PySem PySem.Spec PyProof.Rows L2
theorem alike_ints (ns : List Int) : PySem.W.AlikeAll (ns.map PyData.int) := by
  refine ⟨fun x hx y hy => ?_, fun x hx e => ?_⟩
  · obtain ⟨i, _, rfl⟩ := List.mem_map.mp hx
    obtain ⟨j, _, rfl⟩ := List.mem_map.mp hy
    simp [PySem.W.alike]
  · obtain ⟨i, _, rfl⟩ := List.mem_map.mp hx
    cases e
theorem depth_ints : ∀ ns : List Int, PyData.depthAll (ns.map PyData.int) = 0
  | [] => by simp [PyData.depthAll]
  | n :: ns => by simp [PyData.depthAll, PyData.depth, depth_ints ns]
/-! ### max of a tuple of ints; with default= -/
def rMaxT (K : PySem.W.Frag) : List V → Hp → VK → Prop := fun xs H Q => ∃ (a : Addr) (n : Int) (ns : List Int), xs = [V.ref a] ∧ SqT K H a ((n :: ns).map V.int) ∧ Q (.int (ns.foldl max n)) H
theorem cr_maxT {X : Cx} {K : PySem.W.Frag} (hK : X.K = K) (hc : X.calm = true) (hu : X.A.units + 64 < cLine) : CallR X (.builtin "max") (rMaxT K) := by
  subst hK
  intro pins s σ H vs us Q I r h
  obtain ⟨a, n, ns, rfl, hs, q⟩ := h
  obtain ⟨its, rv, hl, _⟩ := I.tuple hs
  rw [Vals.ref1 r]
  obtain ⟨as, rd⟩ := Dp.readsAll I ((n :: ns).map PyData.int) _ its (dp_ints (n :: ns)) rv
  refine PySem.W.max_tuple_data (x := .int n) (xs := ns.map PyData.int) (I.ok.hd hc) hl (by simpa using rd) (alike_ints (n :: ns)) ?_ fun i v h' tk bs _ hr hk => ?_
  · have := depth_ints (n :: ns)
    rw [List.map_cons] at this
    rw [this]; omega
  · rw [PySem.W.maxD_ints] at hr
    cases hr
    exact ⟨.int _, H, I.kept hk, ⟨_, rfl⟩, q⟩
def rMaxDef (K : PySem.W.Frag) : List V → List V → Hp → VK → Prop := fun xs zs H Q => ∃ (a : Addr) (z : Int) (ns : List Int), xs = [V.ref a] ∧ zs = [V.int z] ∧ SqT K H a (ns.map V.int) ∧ (ns = [] → Q (.int z) H) ∧ ∀ m r, ns = m :: r → Q (.int (r.foldl max m)) H
theorem cr_maxDef {X : Cx} {K : PySem.W.Frag} (hK : X.K = K) (hc : X.calm = true) (hu : X.A.units + 64 < cLine) : CallRK X (.builtin "max") [Str.ofString "default"] (rMaxDef K) := by
  subst hK
  intro pins s σ H vs zs us ws Q I r rz h
  obtain ⟨a, z, ns, rfl, rfl, hs, q0, q1⟩ := h
  obtain ⟨its, rv, hl, _⟩ := I.tuple hs
  rw [Vals.ref1 r]
  obtain ⟨u, rfl, tz, rfl⟩ := vals1 rz
  obtain ⟨as, rd⟩ := Dp.readsAll I (ns.map PyData.int) _ its (dp_ints ns) rv
  refine PySem.W.max_tuple_default (xs := ns.map PyData.int) (I.ok.hd hc) hl (by simpa using rd) (alike_ints ns) ?_ (fun e h' tk hk => ?_) fun y ys i v h' tk bs e _ hr hk => ?_
  · rw [depth_ints ns]; omega
  · exact ⟨.int z, H, I.kept hk, ⟨_, rfl⟩, q0 (List.map_eq_nil_iff.mp e)⟩
  · cases ns with
    | nil => cases e
    | cons m t =>
      rw [List.map_cons] at e
      cases e
      rw [PySem.W.maxD_ints] at hr
      cases hr
      exact ⟨.int _, H, I.kept hk, ⟨_, rfl⟩, q1 m t rfl⟩
/-! ### sorted of a tuple of ints -/
section
variable {prog : Program} {w : World} {A : Around} {E : Value → Shared → Prop} {s : Shared}
theorem gather_tuple {p : Addr} {xs : List Value} {R : List Value → Shared → Prop} (ht : s.heap.IsTuple p xs.toArray) (hz : xs.length ≤ sizeLine)
    (q : R xs { s with heap := (s.heap.push (seqObj "list" #[] 0)).update s.heap.objs.size (Obj.mapSeq (· ++ xs.toArray)) }) : wpAny (model prog w) A (collect (.ref p)) R E s := by
  obtain ⟨ob, hob, hcl, ep, hdt⟩ := id ht
  unfold collect
  refine wpAny_bind (wpAny_runValue (codeAny_builtin entry_proto_collect' (show wpAny _ _ (do again (.builtin "list.__iadd__" ⟨[← newList [], .ref p], []⟩)) _ _ s from ?_)))
  refine wpAny_bind (wpAny_newList (wpAny_pure ⟨Code.quiet_builtin _ (by decide +kernel), codeAny_builtin entry_list_iadd' (show wpAny _ _ (Builtin.List.listExtendWith (.ref s.heap.objs.size) (.ref p) (.ref s.heap.objs.size)) _ _ { s with heap := s.heap.push (seqObj "list" #[] 0) } from ?_)⟩))
  unfold Builtin.List.listExtendWith
  have hob' : (s.heap.push (seqObj "list" #[] 0)).get? p = some ob := Heap.get?_push_of_some _ hob
  refine wpAny_bind (wpAny_typeOf (T := "tuple") ⟨ob, hob', hcl⟩ ?_)
  have tt : (Value.type "tuple" == Value.type "tuple") = true := by rfl
  rw [if_pos (by rw [tt]; simp)]
  refine wpAny_bind (listItems_at hob' hdt (wpAny_bind (listItems_at (xs := #[]) (n := 0) (Heap.get?_push_size _ rfl) rfl ?_)))
  rw [if_neg (by simp)]
  refine wpAny_bind (listUpdate_at (xs := #[]) (n := 0) (Heap.get?_push_size _ rfl) rfl (wpAny_pure ?_) (Nat.zero_le _) (by show (#[] ++ xs.toArray).size ≤ sizeLine + 1; simp only [Array.size_append, List.size_toArray, List.length_nil]; omega))
  show wpAny (model prog w) A (load s.heap.objs.size >>= _) R E { s with heap := (s.heap.push (seqObj "list" #[] 0)).update s.heap.objs.size (Obj.mapSeq (· ++ xs.toArray)) }
  refine wpAny_bind (wpAny_load (get?_update_seq (Heap.get?_push_size _ rfl) _) (show wpAny _ _ (pure ((#[] : Array Value) ++ xs.toArray).toList) R E _ from ?_))
  have ex : ((#[] : Array Value) ++ xs.toArray).toList = xs := by simp
  rw [ex]
  exact wpAny_pure q
theorem sorted_tup {p : Addr} {xs : List Value} {ns : List Int} {Q : Value → Shared → Prop} (ht : s.heap.IsTuple p xs.toArray) (hz : xs.length ≤ sizeLine) (hi : IntsAre xs ns)
    (q : ∀ out : List Value, SrtO.Srtd SrtO.ltIv out → SrtO.Stb SrtO.ltIv out xs → Q (.ref (s.heap.objs.size + 1)) { s with heap := sortedAll s.heap xs out.toArray }) :
    wpAny (model prog w) A (call (.builtin "sorted") [.ref p]) Q E s := by
  refine Calls.call_function_entry kind_sorted plain_sorted entry_sorted (args_sorted1 _) ?_
  unfold Builtin.«sorted»
  refine wpAny_bind (m := checkCount "sorted" 1 1 _) (wpAny_pure (wpAny_bind (gather_tuple ht hz (wpAny_bind (wpAny_newList ?_ hz)))))
  have sz1 : ((s.heap.push (seqObj "list" #[] 0)).update s.heap.objs.size (Obj.mapSeq (· ++ xs.toArray))).objs.size = s.heap.objs.size + 1 := (Heap.size_update ..).trans (Heap.size_push ..)
  have hoL := Heap.get?_push_size ((s.heap.push (seqObj "list" #[] 0)).update s.heap.objs.size (Obj.mapSeq (· ++ xs.toArray))) (o := seqObj "list" xs.toArray 0) rfl
  rw [sz1] at hoL
  show wpAny _ _ _ _ _ { s with heap := ((s.heap.push (seqObj "list" #[] 0)).update s.heap.objs.size (Obj.mapSeq (· ++ xs.toArray))).push (seqObj "list" xs.toArray 0) }
  rw [sz1]
  exact wpAny_bind (wpAny_holding (wpAny_call_entry PyProof.Rows.slot_list_sort ⟨_, hoL, rfl⟩ PyProof.Rows.entry_list_sort (SrtO.list_sort_ord SrtO.swo_int hoL hz (fun h2 => SrtO.ints_sortable hi h2) fun out hs hb => ⟨_, rfl, wpAny_pure ⟨_, rfl, q out hs hb⟩⟩) (PyProof.Rows.args_list_sort _)))
end
def rSortT (K : PySem.W.Frag) : List V → Hp → VK → Prop := fun xs H Q => ∃ (a : Addr) (ns : List Int), xs = [V.ref a] ∧ SqT K H a (ns.map V.int) ∧ ∀ (ms : List Int) (p : Addr), ms.Perm ns → H p = none → Q (.ref p) (upd H p (.lst (ms.map V.int)))
theorem cr_sortTI {X : Cx} : CallR X (.builtin "sorted") (rSortT X.K) := by
  intro pins s σ H vs us Q I r h
  obtain ⟨a, ns, rfl, hs, q⟩ := h
  obtain ⟨its, rv, hl, hz⟩ := I.tuple hs
  rw [Vals.ref1 r]
  have hi := rv.ints
  refine sorted_tup hl (by rw [← rv.length]; exact hz) hi fun out h1 h2 => ?_
  obtain ⟨k1, k2, k3⟩ := SrtO.ints_out hi h1 h2
  obtain ⟨ep, he'⟩ := sortedAll_at s.heap its out.toArray
  have hlen : ((out.map SrtO.iv).map V.int).length ≤ sizeLine := by
    have := k2.length_eq
    simp only [List.length_map] at this hz ⊢
    omega
  exact ⟨.ref _, upd H (s.heap.objs.size + 1) (.lst ((out.map SrtO.iv).map V.int)), I.laid (t' := s.toks) (fun _ _ e => sortedAll_old e) (Nat.le_succ _) ⟨hlen, out, ep, vals_of_ints k1, he'⟩, rfl, q _ _ k2 (I.hok.fresh (Nat.le_succ _))⟩
end MB

namespace MB
/-! `in` and `not in` of deep lists: HandS.Deep -/
end MB

set_option maxHeartbeats 4000000
namespace MB
open PySem PySem.Spec PyProof.Rows L2
def topS (i : Nat) : Stmt := PySem.Challenge.pw_mergebudget_k78_whole_policies_write_lea.main.body.getD i (.Pass ⟨0, 0, 0, 0⟩)
abbrev s_is_int : Stmt := topS 6
abbrev N_is_int : List Str := ["value"]
theorem sc_is_int : FnScope N_is_int ["value"] (defScope s_is_int) := ⟨rfl, rfl, rfl, by decide +kernel, rfl, by decide +kernel, by decide +kernel⟩
abbrev s_is_count : Stmt := topS 7
abbrev N_is_count : List Str := ["value"]
theorem sc_is_count : FnScope N_is_count ["value"] (defScope s_is_count) := ⟨rfl, rfl, rfl, by decide +kernel, rfl, by decide +kernel, by decide +kernel⟩
abbrev s_is_count_up_to : Stmt := topS 8
abbrev N_is_count_up_to : List Str := ["value", "most"]
theorem sc_is_count_up_to : FnScope N_is_count_up_to ["value", "most"] (defScope s_is_count_up_to) := ⟨rfl, rfl, rfl, by decide +kernel, rfl, by decide +kernel, by decide +kernel⟩
abbrev s_check_budgets : Stmt := topS 9
abbrev N_check_budgets : List Str := ["k", "c", "most", "budget"]
theorem sc_check_budgets : FnScope N_check_budgets ["k", "c", "most"] (defScope s_check_budgets) := ⟨rfl, rfl, rfl, by decide +kernel, rfl, by decide +kernel, by decide +kernel⟩
abbrev s_lifetime : Stmt := topS 12
abbrev N_lifetime : List Str := ["k", "c"]
theorem sc_lifetime : FnScope N_lifetime ["k", "c"] (defScope s_lifetime) := ⟨rfl, rfl, rfl, by decide +kernel, rfl, by decide +kernel, by decide +kernel⟩
abbrev s_choose : Stmt := topS 13
abbrev N_choose : List Str := ["n", "k", "result", "factor"]
theorem sc_choose : FnScope N_choose ["n", "k"] (defScope s_choose) := ⟨rfl, rfl, rfl, by decide +kernel, rfl, by decide +kernel, by decide +kernel⟩
abbrev s_least_writes : Stmt := topS 16
abbrev N_least_writes : List Str := ["n", "k"]
theorem sc_least_writes : FnScope N_least_writes ["n", "k"] (defScope s_least_writes) := ⟨rfl, rfl, rfl, by decide +kernel, rfl, by decide +kernel, by decide +kernel⟩
abbrev s_check_number : Stmt := topS 17
abbrev N_check_number : List Str := ["number", "most"]
theorem sc_check_number : FnScope N_check_number ["number", "most"] (defScope s_check_number) := ⟨rfl, rfl, rfl, by decide +kernel, rfl, by decide +kernel, by decide +kernel⟩
abbrev s_check_runs : Stmt := topS 18
abbrev N_check_runs : List Str := ["k"]
theorem sc_check_runs : FnScope N_check_runs ["k"] (defScope s_check_runs) := ⟨rfl, rfl, rfl, by decide +kernel, rfl, by decide +kernel, by decide +kernel⟩
abbrev s_writes_needed : Stmt := topS 19
abbrev N_writes_needed : List Str := ["n", "k", "enough", "too_few", "middle"]
theorem sc_writes_needed : FnScope N_writes_needed ["n", "k"] (defScope s_writes_needed) := ⟨rfl, rfl, rfl, by decide +kernel, rfl, by decide +kernel, by decide +kernel⟩
abbrev s_policy_merge : Stmt := topS 20
abbrev N_policy_merge : List Str := ["k", "i"]
theorem sc_policy_merge : FnScope N_policy_merge ["k", "i"] (defScope s_policy_merge) := ⟨rfl, rfl, rfl, by decide +kernel, rfl, by decide +kernel, by decide +kernel⟩
abbrev s_run_lengths : Stmt := topS 21
abbrev N_run_lengths : List Str := ["k", "n", "lengths", "rest", "term", "length"]
theorem sc_run_lengths : FnScope N_run_lengths ["k", "n"] (defScope s_run_lengths) := ⟨rfl, rfl, rfl, by decide +kernel, rfl, by decide +kernel, by decide +kernel⟩
abbrev s_policy_runs : Stmt := topS 22
abbrev N_policy_runs : List Str := ["k", "n"]
theorem sc_policy_runs : FnScope N_policy_runs ["k", "n"] (defScope s_policy_runs) := ⟨rfl, rfl, rfl, by decide +kernel, rfl, by decide +kernel, by decide +kernel⟩
abbrev s_policy_schedule : Stmt := topS 23
abbrev N_policy_schedule : List Str := ["k", "n", "flush"]
theorem sc_policy_schedule : FnScope N_policy_schedule ["k", "n"] (defScope s_policy_schedule) := ⟨rfl, rfl, rfl, by decide +kernel, rfl, by decide +kernel, by decide +kernel⟩
abbrev s_L_s5_hand : Stmt := topS 25
abbrev N_L_s5_hand : List Str := ["_law_script", "_law_nth", "_law_cell", "_law_digits", "_law_mixed"]
theorem sc_L_s5_hand : FnScope N_L_s5_hand ["_law_script", "_law_nth"] (defScope s_L_s5_hand) := ⟨rfl, rfl, rfl, by decide +kernel, rfl, by decide +kernel, by decide +kernel⟩
abbrev s_L_s5_take : Stmt := topS 26
abbrev N_L_s5_take : List Str := ["_law_hand", "_law_size", "_law_digit", "_law_primes", "_law_prime", "_law_mixed", "_law_drawn"]
theorem sc_L_s5_take : FnScope N_L_s5_take ["_law_hand", "_law_size"] (defScope s_L_s5_take) := ⟨rfl, rfl, rfl, by decide +kernel, rfl, by decide +kernel, by decide +kernel⟩
abbrev s_L_s5_schedules : Stmt := topS 27
abbrev N_L_s5_schedules : List Str := ["_law_total", "_law_found", "_law_flush", "_law_longer", "_law_plan", "_law_runs", "_law_taken"]
theorem sc_L_s5_schedules : FnScope N_L_s5_schedules ["_law_total"] (defScope s_L_s5_schedules) := ⟨rfl, rfl, rfl, by decide +kernel, rfl, by decide +kernel, by decide +kernel⟩
abbrev s_L_s5_profile : Stmt := topS 28
abbrev N_L_s5_profile : List Str := ["_law_plan", "_law_stack", "_law_counts", "_law_profile", "_law_flush", "_law_taken", "_law_kept", "_law_members", "_law_run", "_law_member"]
theorem sc_L_s5_profile : FnScope N_L_s5_profile ["_law_plan"] (defScope s_L_s5_profile) := ⟨rfl, rfl, rfl, by decide +kernel, rfl, by decide +kernel, by decide +kernel⟩
abbrev s_L_s5_policy_right : Stmt := topS 29
abbrev N_L_s5_policy_right : List Str := ["_law_room", "_law_profile", "_law_flush", "_law_written", "_law_runs"]
theorem sc_L_s5_policy_right : FnScope N_L_s5_policy_right ["_law_room"] (defScope s_L_s5_policy_right) := ⟨rfl, rfl, rfl, by decide +kernel, rfl, by decide +kernel, by decide +kernel⟩
abbrev s_L_s5_others_right : Stmt := topS 30
abbrev N_L_s5_others_right : List Str := ["_law_total", "_law_room", "_law_least", "_law_same", "_law_plan", "_law_profile", "_law_written", "_law_runs"]
theorem sc_L_s5_others_right : FnScope N_L_s5_others_right ["_law_total", "_law_room"] (defScope s_L_s5_others_right) := ⟨rfl, rfl, rfl, by decide +kernel, rfl, by decide +kernel, by decide +kernel⟩
abbrev s_law : Stmt := topS 31
abbrev N_law : List Str := ["_law_script", "_law_nth", "_law_hand", "_law_room", "_law_total"]
theorem sc_law : FnScope N_law ["_law_script"] (defScope s_law) := ⟨rfl, rfl, rfl, by decide +kernel, rfl, by decide +kernel, by decide +kernel⟩
structure Tx (K : PySem.W.Frag) (mg : Str → Option Value) where
  a_is_int : Addr
  fd_is_int : FuncData
  f_is_int : Fun K "is_int" "is_int" s_is_int a_is_int fd_is_int
  g_is_int : mg "is_int" = some (.ref a_is_int)
  bd_is_int : Binds K fd_is_int ["value"] []
  a_is_count : Addr
  fd_is_count : FuncData
  f_is_count : Fun K "is_count" "is_count" s_is_count a_is_count fd_is_count
  g_is_count : mg "is_count" = some (.ref a_is_count)
  bd_is_count : Binds K fd_is_count ["value"] []
  a_is_count_up_to : Addr
  fd_is_count_up_to : FuncData
  f_is_count_up_to : Fun K "is_count_up_to" "is_count_up_to" s_is_count_up_to a_is_count_up_to fd_is_count_up_to
  g_is_count_up_to : mg "is_count_up_to" = some (.ref a_is_count_up_to)
  bd_is_count_up_to : Binds K fd_is_count_up_to ["value", "most"] []
  a_check_budgets : Addr
  fd_check_budgets : FuncData
  f_check_budgets : Fun K "check_budgets" "check_budgets" s_check_budgets a_check_budgets fd_check_budgets
  g_check_budgets : mg "check_budgets" = some (.ref a_check_budgets)
  bd_check_budgets : Binds K fd_check_budgets ["k", "c", "most"] []
  a_lifetime : Addr
  fd_lifetime : FuncData
  f_lifetime : Fun K "lifetime" "lifetime" s_lifetime a_lifetime fd_lifetime
  g_lifetime : mg "lifetime" = some (.ref a_lifetime)
  bd_lifetime : Binds K fd_lifetime ["k", "c"] []
  a_choose : Addr
  fd_choose : FuncData
  f_choose : Fun K "choose" "choose" s_choose a_choose fd_choose
  g_choose : mg "choose" = some (.ref a_choose)
  bd_choose : Binds K fd_choose ["n", "k"] []
  a_least_writes : Addr
  fd_least_writes : FuncData
  f_least_writes : Fun K "least_writes" "least_writes" s_least_writes a_least_writes fd_least_writes
  g_least_writes : mg "least_writes" = some (.ref a_least_writes)
  bd_least_writes : Binds K fd_least_writes ["n", "k"] []
  a_check_number : Addr
  fd_check_number : FuncData
  f_check_number : Fun K "check_number" "check_number" s_check_number a_check_number fd_check_number
  g_check_number : mg "check_number" = some (.ref a_check_number)
  bd_check_number : Binds K fd_check_number ["number", "most"] []
  a_check_runs : Addr
  fd_check_runs : FuncData
  f_check_runs : Fun K "check_runs" "check_runs" s_check_runs a_check_runs fd_check_runs
  g_check_runs : mg "check_runs" = some (.ref a_check_runs)
  bd_check_runs : Binds K fd_check_runs ["k"] []
  a_writes_needed : Addr
  fd_writes_needed : FuncData
  f_writes_needed : Fun K "writes_needed" "writes_needed" s_writes_needed a_writes_needed fd_writes_needed
  g_writes_needed : mg "writes_needed" = some (.ref a_writes_needed)
  bd_writes_needed : Binds K fd_writes_needed ["n", "k"] []
  a_policy_merge : Addr
  fd_policy_merge : FuncData
  f_policy_merge : Fun K "policy_merge" "policy_merge" s_policy_merge a_policy_merge fd_policy_merge
  g_policy_merge : mg "policy_merge" = some (.ref a_policy_merge)
  bd_policy_merge : Binds K fd_policy_merge ["k", "i"] []
  a_run_lengths : Addr
  fd_run_lengths : FuncData
  f_run_lengths : Fun K "run_lengths" "run_lengths" s_run_lengths a_run_lengths fd_run_lengths
  g_run_lengths : mg "run_lengths" = some (.ref a_run_lengths)
  bd_run_lengths : Binds K fd_run_lengths ["k", "n"] []
  a_policy_runs : Addr
  fd_policy_runs : FuncData
  f_policy_runs : Fun K "policy_runs" "policy_runs" s_policy_runs a_policy_runs fd_policy_runs
  g_policy_runs : mg "policy_runs" = some (.ref a_policy_runs)
  bd_policy_runs : Binds K fd_policy_runs ["k", "n"] []
  a_policy_schedule : Addr
  fd_policy_schedule : FuncData
  f_policy_schedule : Fun K "policy_schedule" "policy_schedule" s_policy_schedule a_policy_schedule fd_policy_schedule
  g_policy_schedule : mg "policy_schedule" = some (.ref a_policy_schedule)
  bd_policy_schedule : Binds K fd_policy_schedule ["k", "n"] []
  a_L_s5_hand : Addr
  fd_L_s5_hand : FuncData
  f_L_s5_hand : Fun K "_law_s5_hand" "_law_s5_hand" s_L_s5_hand a_L_s5_hand fd_L_s5_hand
  g_L_s5_hand : mg "_law_s5_hand" = some (.ref a_L_s5_hand)
  bd_L_s5_hand : Binds K fd_L_s5_hand ["_law_script", "_law_nth"] []
  a_L_s5_take : Addr
  fd_L_s5_take : FuncData
  f_L_s5_take : Fun K "_law_s5_take" "_law_s5_take" s_L_s5_take a_L_s5_take fd_L_s5_take
  g_L_s5_take : mg "_law_s5_take" = some (.ref a_L_s5_take)
  bd_L_s5_take : Binds K fd_L_s5_take ["_law_hand", "_law_size"] []
  a_L_s5_schedules : Addr
  fd_L_s5_schedules : FuncData
  f_L_s5_schedules : Fun K "_law_s5_schedules" "_law_s5_schedules" s_L_s5_schedules a_L_s5_schedules fd_L_s5_schedules
  g_L_s5_schedules : mg "_law_s5_schedules" = some (.ref a_L_s5_schedules)
  bd_L_s5_schedules : Binds K fd_L_s5_schedules ["_law_total"] []
  a_L_s5_profile : Addr
  fd_L_s5_profile : FuncData
  f_L_s5_profile : Fun K "_law_s5_profile" "_law_s5_profile" s_L_s5_profile a_L_s5_profile fd_L_s5_profile
  g_L_s5_profile : mg "_law_s5_profile" = some (.ref a_L_s5_profile)
  bd_L_s5_profile : Binds K fd_L_s5_profile ["_law_plan"] []
  a_L_s5_policy_right : Addr
  fd_L_s5_policy_right : FuncData
  f_L_s5_policy_right : Fun K "_law_s5_policy_right" "_law_s5_policy_right" s_L_s5_policy_right a_L_s5_policy_right fd_L_s5_policy_right
  g_L_s5_policy_right : mg "_law_s5_policy_right" = some (.ref a_L_s5_policy_right)
  bd_L_s5_policy_right : Binds K fd_L_s5_policy_right ["_law_room"] []
  a_L_s5_others_right : Addr
  fd_L_s5_others_right : FuncData
  f_L_s5_others_right : Fun K "_law_s5_others_right" "_law_s5_others_right" s_L_s5_others_right a_L_s5_others_right fd_L_s5_others_right
  g_L_s5_others_right : mg "_law_s5_others_right" = some (.ref a_L_s5_others_right)
  bd_L_s5_others_right : Binds K fd_L_s5_others_right ["_law_total", "_law_room"] []
  a_law : Addr
  fd_law : FuncData
  f_law : Fun K "law" "law" s_law a_law fd_law
  g_law : mg "law" = some (.ref a_law)
  bd_law : Binds K fd_law ["_law_script"] []
  b_isinstance : mg "isinstance" = none
  b_int : mg "int" = none
  b_bool : mg "bool" = none
  b_range : mg "range" = none
  b_min : mg "min" = none
  b_len : mg "len" = none
  b_tuple : mg "tuple" = none
  b_abs : mg "abs" = none
  b_enumerate : mg "enumerate" = none
  b_max : mg "max" = none
  b_all : mg "all" = none
  t_MOST_BUDGET : Tok
  c_MOST_BUDGET : mg "MOST_BUDGET" = some (.int (60) t_MOST_BUDGET)
  t_MOST_FLUSHES : Tok
  c_MOST_FLUSHES : mg "MOST_FLUSHES" = some (.int (60) t_MOST_FLUSHES)
  t_MOST_POSITION : Tok
  c_MOST_POSITION : mg "MOST_POSITION" = some (.int (1000000000000000000) t_MOST_POSITION)
section
variable {P : Program} {w : World} {K : PySem.W.Frag} {mg : Str → Option Value} {base : Heap}
def sp_is_int (K : PySem.W.Frag) : Sp := fun vs H Q _ => ∃ i : Int, vs = [.int i] ∧ Q (.bl true) H
theorem ok_is_int (TX : Tx K mg) : FnOk P w K mg base CX0 1 TX.a_is_int TX.fd_is_int ["value"] (sp_is_int K) := by
  refine TX.f_is_int.ok sc_is_int (fun vs H Q E h => ?_) (fun cdv A outer s H vs Q E hr h => ?_)
  · obtain ⟨i, rfl, _⟩ := h; rfl
  · obtain ⟨i, rfl, q⟩ := h
    refine ⟨_, (pss_one (ps_ret (pe_and (pe_callB (id := "isinstance") (k_isi (K := K) rfl) (by rfl) TX.b_isinstance (by decide +kernel) (pa_cons (pv 0) (pa_cons (pe_bltn (v := .ty "int") (by rfl) TX.b_int (by decide +kernel) rfl) pa_nil))) (pe_one (pe_not (pe_callB (id := "isinstance") (k_isi (K := K) rfl) (by rfl) TX.b_isinstance (by decide +kernel) (pa_cons (pv 0) (pa_cons (pe_bltn (v := .ty "bool") (by rfl) TX.b_bool (by decide +kernel) rfl) pa_nil)))))))), ?_⟩
    refine ⟨.int i, rfl, .int i, .ty "int", .type "int", .type "int", true, rfl, .ty _, .base (.int i), kit_ty (by decide +kernel), true, rfl, ?_⟩
    exact iteT ⟨.int i, rfl, .int i, .ty "bool", .type "int", .type "bool", false, rfl, .ty _, .base (.int i), kit_ty (by decide +kernel), false, rfl, q⟩
def sp_is_count (K : PySem.W.Frag) : Sp := fun vs H Q _ => ∃ i : Int, vs = [.int i] ∧ Q (.bl (decide (0 ≤ i))) H
theorem ok_is_count (TX : Tx K mg) : FnOk P w K mg base CX0 2 TX.a_is_count TX.fd_is_count ["value"] (sp_is_count K) := by
  refine TX.f_is_count.ok sc_is_count (fun vs H Q E h => ?_) (fun cdv A outer s H vs Q E hr h => ?_)
  · obtain ⟨i, rfl, _⟩ := h; rfl
  · obtain ⟨i, rfl, q⟩ := h
    refine ⟨_, (pss_one (ps_ret (pe_and (pe_call (ok_is_int TX) (hr.mono (by decide)) (by rfl) TX.g_is_int TX.f_is_int.kp TX.bd_is_int .nil pass0 (pa_cons (pv 0) pa_nil)) (pe_one (pe_cmpR op_ge (pv 0) pe_int (nomark _)))))), ?_⟩
    exact ⟨.int i, rfl, i, rfl, true, rfl, iteT ⟨.int i, rfl, i, 0, rfl, rfl, q⟩⟩
def sp_is_count_up_to (K : PySem.W.Frag) : Sp := fun vs H Q _ => ∃ i m : Int, vs = [.int i, .int m] ∧ Q (.bl (decide (0 ≤ i) && decide (i ≤ m))) H
theorem ok_is_count_up_to (TX : Tx K mg) : FnOk P w K mg base CX0 3 TX.a_is_count_up_to TX.fd_is_count_up_to ["value", "most"] (sp_is_count_up_to K) := by
  refine TX.f_is_count_up_to.ok sc_is_count_up_to (fun vs H Q E h => ?_) (fun cdv A outer s H vs Q E hr h => ?_)
  · obtain ⟨i, m, rfl, _⟩ := h; rfl
  · obtain ⟨i, m, rfl, q⟩ := h
    refine ⟨_, (pss_one (ps_ret (pe_and (pe_call (ok_is_count TX) (hr.mono (by decide)) (by rfl) TX.g_is_count TX.f_is_count.kp TX.bd_is_count .nil pass0 (pa_cons (pv 0) pa_nil)) (pe_one (pe_cmpR op_le (pv 0) (pv 1) (nomark _)))))), ?_⟩
    refine ⟨.int i, rfl, i, rfl, _, rfl, ?_⟩
    by_cases h0 : 0 ≤ i
    · rw [decide_eq_true h0] at q ⊢
      exact iteT ⟨.int i, rfl, .int m, rfl, i, m, rfl, rfl, q⟩
    · rw [decide_eq_false h0] at q ⊢
      exact iteF q
end
section
variable {P : Program} {w : World} {K : PySem.W.Frag} {mg : Str → Option Value} {base : Heap}
theorem min_nat (a b : Nat) : (if (b : Int) < (a : Int) then (b : Int) else (a : Int)) = ((min a b : Nat) : Int) := by
  by_cases h : b < a
  · rw [if_pos (by omega), Nat.min_eq_right (by omega)]
  · rw [if_neg (by omega), Nat.min_eq_left (by omega)]
theorem max_nat (a b : Nat) : (if (b : Int) > (a : Int) then (b : Int) else (a : Int)) = ((max a b : Nat) : Int) := by
  by_cases h : b > a
  · rw [if_pos (by omega), Nat.max_eq_right (by omega)]
  · rw [if_neg (by omega), Nat.max_eq_left (by omega)]
theorem bin_turn {n j : Nat} (h : j < n) : (bin n j : Int) * ((n : Int) - (j : Int)) / ((j : Int) + 1) = (bin n (j + 1) : Int) := by
  rw [← bin_div (n := n) (j := j) (by omega)]
  have e : ((n : Int) - (j : Int)) = ((n - j : Nat) : Int) := by omega
  rw [e]; norm_cast
def sp_choose (K : PySem.W.Frag) : Sp := fun vs H Q _ => ∃ n k : Nat, vs = [.int (n : Int), .int (k : Int)] ∧ k ≤ n ∧ k ≤ 64 ∧ n < 2 ^ 64 ∧ Q (.int (bin n k : Int)) H
theorem ok_choose (TX : Tx K mg) : FnOk P w K mg base CX0 1 TX.a_choose TX.fd_choose ["n", "k"] (sp_choose K) := by
  refine TX.f_choose.ok sc_choose (fun vs H Q E h => ?_) (fun cdv A outer s H vs Q E hr h => ?_)
  · obtain ⟨n, k, rfl, _⟩ := h; rfl
  · obtain ⟨n, k, rfl, hk, hk2, hn, q⟩ := h
    refine ⟨_, (pss_cons (ps_set (i := 2) sc_choose.nd rfl (.inl rfl) pe_int)
      (pss_cons (ps_for PassesOwn.never rfl (pi_range2 (by rfl) TX.b_range (pa_cons pe_int (pa_cons (pe_op op_add (pe_callB (id := "min") (call_min2 rfl) (by rfl) TX.b_min (by decide +kernel) (pa_cons (pv 1) (pa_cons (pe_op op_sub (pv 0) (pv 1)) pa_nil))) pe_int) pa_nil))) (pg_name (i := 3) sc_choose.nd rfl (.inl rfl))
        (pss_one (ps_set (i := 2) sc_choose.nd rfl (.inl rfl) (pe_op op_fdivW (pe_op op_mulW (pv 2) (pe_op op_sub (pe_op op_add (pv 0) pe_int) (pv 3))) (pv 3)))))
      (pss_one (ps_ret (pv 2))))), ?_⟩
    refine ⟨_, rfl, _, rfl, _, rfl, _, _, rfl, rfl, _, _, rfl, _, _, rfl, rfl, _, _, rfl, ?_⟩
    have em : (if (n : Int) - (k : Int) < (k : Int) then (n : Int) - (k : Int) else (k : Int)) = ((min k (n - k) : Nat) : Int) := by
      have := min_nat k (n - k)
      rwa [show ((n - k : Nat) : Int) = (n : Int) - (k : Int) by omega] at this
    rw [em]
    have hm1 : min k (n - k) ≤ 64 := by omega
    have hm2 : min k (n - k) ≤ n := by omega
    rw [← bin_min hk] at q
    generalize min k (n - k) = m at hm1 hm2 q
    refine ⟨⟨by decide, by decide, by omega, by omega⟩, for_range (lo := 1) (n := (((m : Nat) : Int) + 1 - 1).toNat) (fun i σ H' => H' = H ∧ ∃ y, σ = [some (.int (n : Int)), some (.int (k : Int)), some (.int (bin n i : Int)), y]) ⟨rfl, none, by rw [bin_zero]; rfl⟩ ?_ ?_⟩
    · rintro i σ H' hi ⟨rfl, y, rfl⟩
      refine ⟨_, rfl, _, rfl, _, _, rfl, rfl, _, rfl, _, _, rfl, rfl, _, _, rfl, rfl, ?_, _, rfl, _, _, rfl, rfl, ?_, rfl, some (.int (1 + (i : Int))), ?_⟩
      · have := bin_bits (n := n) (k := i) hn (by omega)
        exact wide_mul (a := 4097) (b := 65) (by omega) (by omega) (by decide) (by decide) (by decide)
      · exact wide_div (b := 8) (by omega) (by omega) (by decide) (by decide)
      · have e1 : (n : Int) + 1 - (1 + (i : Int)) = (n : Int) - (i : Int) := by omega
        have e2 : (1 + (i : Int)) = (i : Int) + 1 := by omega
        show [_, _, _, _] = [_, _, _, _]
        simp only [List.cons.injEq, Option.some.injEq, V.int.injEq, and_true, true_and]
        rw [e1, e2]
        exact bin_turn (by omega)
    · rintro σ H' ⟨rfl, y, rfl⟩
      refine ⟨_, rfl, ?_⟩
      rw [show (((m : Nat) : Int) + 1 - 1).toNat = m by omega]
      exact q
end
section
variable {P : Program} {w : World} {K : PySem.W.Frag} {mg : Str → Option Value} {base : Heap}
def sp_check_number (K : PySem.W.Frag) : Sp := fun vs H Q _ => ∃ i m : Int, vs = [.int i, .int m] ∧ 0 ≤ i ∧ i ≤ m ∧ Q .non H
theorem ok_check_number (TX : Tx K mg) : FnOk P w K mg base CX0 4 TX.a_check_number TX.fd_check_number ["number", "most"] (sp_check_number K) := by
  refine TX.f_check_number.ok sc_check_number (fun vs H Q E h => ?_) (fun cdv A outer s H vs Q E hr h => ?_)
  · obtain ⟨i, m, rfl, _⟩ := h; rfl
  · obtain ⟨i, m, rfl, h0, h1, q⟩ := h
    refine ⟨_, (pss_one (ps_if (pt_not (pt_val (pe_call (ok_is_count_up_to TX) (hr.mono (by decide)) (by rfl) TX.g_is_count_up_to TX.f_is_count_up_to.kp TX.bd_is_count_up_to .nil pass0 (pa_cons (pv 0) (pa_cons (pv 1) pa_nil)))))
        (pss_one ps_never)
        pss_nil)), ?_⟩
    exact ⟨_, rfl, _, rfl, _, _, rfl, true, by rw [decide_eq_true h0, decide_eq_true h1]; rfl, iteF q⟩
def sp_check_runs (K : PySem.W.Frag) : Sp := fun vs H Q _ => ∃ k : Int, vs = [.int k] ∧ 1 ≤ k ∧ k ≤ 60 ∧ Q .non H
theorem ok_check_runs (TX : Tx K mg) : FnOk P w K mg base CX0 4 TX.a_check_runs TX.fd_check_runs ["k"] (sp_check_runs K) := by
  refine TX.f_check_runs.ok sc_check_runs (fun vs H Q E h => ?_) (fun cdv A outer s H vs Q E hr h => ?_)
  · obtain ⟨k, rfl, _⟩ := h; rfl
  · obtain ⟨k, rfl, h0, h1, q⟩ := h
    refine ⟨_, (pss_one (ps_if (PW.pt (pw_or (pt_not (pt_val (pe_call (ok_is_count_up_to TX) (hr.mono (by decide)) (by rfl) TX.g_is_count_up_to TX.f_is_count_up_to.kp TX.bd_is_count_up_to .nil pass0 (pa_cons (pv 0) (pa_cons (pe_glob (v := .int (60)) (by rfl) TX.c_MOST_BUDGET ⟨_, rfl⟩) pa_nil))))) (pw_or1 (pt_cmpR op_eq (pv 0) pe_int (nomark _)))))
        (pss_one ps_never)
        pss_nil)), ?_⟩
    refine ⟨_, rfl, _, _, rfl, true, by rw [decide_eq_true (show (0 : Int) ≤ k by omega), decide_eq_true h1]; rfl, iteF ⟨_, rfl, rfl, _, rfl, decF (by intro e; cases e; omega) q⟩⟩
def sp_writes_needed (K : PySem.W.Frag) : Sp := fun vs H Q _ => ∃ n k : Nat, vs = [.int (n : Int), .int (k : Int)] ∧ 1 ≤ k ∧ k ≤ 60 ∧ n ≤ 2 ^ 62 ∧ Q (.int (lw k n : Int)) H
theorem ok_writes_needed (TX : Tx K mg) : FnOk P w K mg base CX0 2 TX.a_writes_needed TX.fd_writes_needed ["n", "k"] (sp_writes_needed K) := by
  refine TX.f_writes_needed.ok sc_writes_needed (fun vs H Q E h => ?_) (fun cdv A outer s H vs Q E hr h => ?_)
  · obtain ⟨n, k, rfl, _⟩ := h; rfl
  · obtain ⟨n, k, rfl, hk, hk2, hn, q⟩ := h
    refine ⟨_, (pss_cons (ps_set (i := 2) sc_writes_needed.nd rfl (.inl rfl) pe_int)
      (pss_cons (ps_while PassesOwn.never (pt_cmpR op_le (pe_call (ok_choose TX) (hr.mono (by decide)) (by rfl) TX.g_choose TX.f_choose.kp TX.bd_choose .nil pass0 (pa_cons (pe_op op_add (pv 1) (pv 2)) (pa_cons (pv 1) pa_nil))) (pv 0) (nomark _))
        (pss_one (ps_aug (i := 2) sc_writes_needed.nd rfl (.inl rfl) pe_int ip_mulW)))
      (pss_cut (ps_set (i := 3) sc_writes_needed.nd rfl (.inl rfl) (pe_ifExp (pt_cmpR op_gt (pv 2) pe_int (nomark _)) (pe_op op_fdivW (pv 2) pe_int) (pe_un un_neg pe_int)))
      (pss_cons (ps_while PassesOwn.never (pt_cmpR op_gt (pe_op op_sub (pv 2) (pv 3)) pe_int (nomark _))
        (pss_cons (ps_set (i := 4) sc_writes_needed.nd rfl (.inl rfl) (pe_op op_fdivW (pe_op op_add (pv 3) (pv 2)) pe_int))
        (pss_one (ps_if (pt_cmpR op_le (pe_call (ok_choose TX) (hr.mono (by decide)) (by rfl) TX.g_choose TX.f_choose.kp TX.bd_choose .nil pass0 (pa_cons (pe_op op_add (pv 1) (pv 4)) (pa_cons (pv 1) pa_nil))) (pv 0) (nomark _))
          (pss_one (ps_set (i := 3) sc_writes_needed.nd rfl (.inl rfl) (pv 4)))
          (pss_one (ps_set (i := 2) sc_writes_needed.nd rfl (.inl rfl) (pv 4)))))))
      (pss_one (ps_ret (pv 2))))))), ?_⟩
    refine ⟨fun m σ H' => H' = H ∧ ∃ e : Nat, σ = [some (.int (n : Int)), some (.int (k : Int)), some (.int (e : Int)), none, none] ∧ 1 ≤ e ∧ (e = 1 ∨ (e % 2 = 0 ∧ bin (k + e / 2) k ≤ n)) ∧ e ≤ 2 * n + 2 ∧ m = 2 * n + 2 - e, ⟨_, rfl, 1, rfl, by decide, .inl rfl, by omega, rfl⟩, ?_⟩
    rintro m σ H' ⟨rfl, e, rfl, h1, h2, h3, rfl⟩
    refine ⟨_, rfl, _, rfl, _, _, rfl, rfl, _, rfl, k + e, k, rfl, by omega, by omega, by omega, _, rfl, _, _, rfl, rfl, _, rfl, ?_⟩
    by_cases hc : bin (k + e) k ≤ n
    · refine decT (by omega) ⟨_, fun _ _ h => h, _, rfl, _, _, rfl, rfl, wide_mul (a := 64) (b := 3) (by omega) (by decide) (by decide) (by decide) (by decide), ?_⟩
      have hb := bin_big (k := k) (c := e) hk
      refine ⟨2 * n + 2 - 2 * e, by omega, rfl, 2 * e, ?_, by omega, .inr ⟨by omega, by rw [show 2 * e / 2 = e by omega]; exact hc⟩, by omega, rfl⟩
      show [_, _, _, _, _] = [_, _, _, _, _]
      simp only [List.cons.injEq, Option.some.injEq, V.int.injEq, and_true, true_and]
      omega
    · refine decF (by omega) ?_
      refine ⟨fun σ' H2 => H2 = H' ∧ ∃ tf : Int, (tf = -1 ∨ ∃ t : Nat, tf = (t : Int) ∧ bin (k + t) k ≤ n) ∧ tf < (e : Int) ∧ σ' = [some (.int (n : Int)), some (.int (k : Int)), some (.int (e : Int)), some (.int tf), none], ?_, ?_⟩
      · refine ⟨_, rfl, _, _, rfl, rfl, _, rfl, ?_⟩
        by_cases he : 1 < e
        · rcases h2 with h2 | ⟨h2, h2'⟩
          · omega
          · exact decT (by omega) ⟨_, rfl, _, _, rfl, rfl, wide_div (b := 3) (by decide) (by decide) (by decide) (by decide), rfl, ((e / 2 : Nat) : Int), .inr ⟨_, rfl, h2'⟩, by omega, rfl⟩
        · exact decF (by omega) ⟨_, rfl, rfl, -1, .inl rfl, by omega, rfl⟩
      rintro σ' H2 ⟨rfl, tf, htf, hlt, rfl⟩
      refine ⟨fun m σ H4 => H4 = H2 ∧ ∃ (e : Nat) (tf : Int) (y : Option V), σ = [some (.int (n : Int)), some (.int (k : Int)), some (.int (e : Int)), some (.int tf), y] ∧ n < bin (k + e) k ∧ (tf = -1 ∨ ∃ t : Nat, tf = (t : Int) ∧ bin (k + t) k ≤ n) ∧ tf < (e : Int) ∧ e ≤ 2 * n + 2 ∧ m = ((e : Int) - tf).toNat, ⟨_, rfl, e, tf, none, rfl, by omega, htf, hlt, h3, rfl⟩, ?_⟩
      rintro m σ H3 ⟨rfl, e, tf, y, rfl, g1, g2, g3, g4, rfl⟩
      refine ⟨_, rfl, _, rfl, _, _, rfl, rfl, _, _, rfl, rfl, _, rfl, ?_⟩
      have tf0 : -1 ≤ tf := by
        rcases g2 with g | ⟨t, g, _⟩ <;> omega
      by_cases hx : (e : Int) - tf > 1
      · refine decT hx ⟨_, fun _ _ h => h, ?_⟩
        refine ⟨_, rfl, _, rfl, _, _, rfl, rfl, _, _, rfl, rfl, wide_div (b := 3) (by decide) (by decide) (by decide) (by decide), ?_⟩
        have m0 : ∃ md : Nat, (tf + (e : Int)) / 2 = (md : Int) ∧ tf < (md : Int) ∧ md < e := ⟨((tf + (e : Int)) / 2).toNat, by omega, by omega, by omega⟩
        obtain ⟨md, em, m1, m2⟩ := m0
        dsimp only
        rw [em]
        refine ⟨_, rfl, _, rfl, _, _, rfl, rfl, _, rfl, k + md, k, rfl, by omega, by omega, by omega, _, rfl, _, _, rfl, rfl, _, rfl, ?_⟩
        by_cases hd : bin (k + md) k ≤ n
        · exact decT (by omega) ⟨_, rfl, _, by omega, rfl, e, md, _, rfl, g1, .inr ⟨md, rfl, hd⟩, by omega, g4, rfl⟩
        · exact decF (by omega) ⟨_, rfl, _, by omega, rfl, md, tf, _, rfl, by omega, g2, m1, by omega, rfl⟩
      · refine decF hx ⟨_, rfl, ?_⟩
        have he : lw k n = e := by
          refine (lw_ok n hk).uniq (Lw.mk' g1 ?_)
          rcases g2 with g | ⟨t, g, g'⟩
          · left; omega
          · right
            rw [show e - 1 = t by omega]; exact g'
        rw [← he]
        exact q
end
section
variable {P : Program} {w : World} {K : PySem.W.Frag} {mg : Str → Option Value} {base : Heap}
def sp_least_writes (K : PySem.W.Frag) : Sp := fun vs H Q _ => ∃ n k : Nat, vs = [.int (n : Int), .int (k : Int)] ∧ 1 ≤ k ∧ k ≤ 60 ∧ n ≤ 10 ^ 18 ∧ Q (.int (lw k n : Int)) H
theorem ok_least_writes (TX : Tx K mg) : FnOk P w K mg base CX0 5 TX.a_least_writes TX.fd_least_writes ["n", "k"] (sp_least_writes K) := by
  refine TX.f_least_writes.ok sc_least_writes (fun vs H Q E h => ?_) (fun cdv A outer s H vs Q E hr h => ?_)
  · obtain ⟨n, k, rfl, _⟩ := h; rfl
  · obtain ⟨n, k, rfl, hk, hk2, hn, q⟩ := h
    refine ⟨_, (pss_cons (ps_expr (pe_call (ok_check_number TX) (hr.mono (by decide)) (by rfl) TX.g_check_number TX.f_check_number.kp TX.bd_check_number .nil pass0 (pa_cons (pv 0) (pa_cons (pe_glob (v := .int (1000000000000000000)) (by rfl) TX.c_MOST_POSITION ⟨_, rfl⟩) pa_nil))))
      (pss_cons (ps_expr (pe_call (ok_check_runs TX) (hr.mono (by decide)) (by rfl) TX.g_check_runs TX.f_check_runs.kp TX.bd_check_runs .nil pass0 (pa_cons (pv 1) pa_nil)))
      (pss_one (ps_ret (pe_call (ok_writes_needed TX) (hr.mono (by decide)) (by rfl) TX.g_writes_needed TX.f_writes_needed.kp TX.bd_writes_needed .nil pass0 (pa_cons (pv 0) (pa_cons (pv 1) pa_nil))))))), ?_⟩
    exact ⟨_, rfl, _, _, rfl, by omega, by omega, _, rfl, _, rfl, by omega, by omega, _, rfl, _, rfl, n, k, rfl, hk, hk2, by omega, q⟩
end
/-- the draws' list: a number not below 0, a seed, a count of at most n -/
def Pot (H : Hp) (a : Addr) (n : Int) : Prop := ∃ d s m : Int, H a = some (.lst [.int d, .int s, .int m]) ∧ 0 ≤ d ∧ 0 ≤ s ∧ s < 2 ^ 61 ∧ 0 ≤ m ∧ m ≤ n
theorem Pot.mono {H : Hp} {a : Addr} {n k : Int} (h : Pot H a n) (e : n ≤ k) : Pot H a k := by
  obtain ⟨d, s, m, h1, h2, h3, h4, h5, h6⟩ := h
  exact ⟨d, s, m, h1, h2, h3, h4, h5, by omega⟩
theorem Pot.same {H H' : Hp} {a : Addr} {n : Int} (h : Pot H a n) (e : Same H H') : Pot H' a n := by
  obtain ⟨d, s, m, h1, r⟩ := h
  exact ⟨d, s, m, e _ _ h1, r⟩
theorem Pot.keep {K : PySem.W.Frag} {H H' : Hp} {a : Addr} {n : Int} (h : Pot H a n) (e : But a H H') : Keep K H H' := by
  obtain ⟨d, s, m, h1, r⟩ := h
  exact But.keep e h1
theorem Pot.ne {H : Hp} {a b : Addr} {n : Int} (h : Pot H a n) (e : H b = none) : b ≠ a := fun z => by
  obtain ⟨d, s, m, h1, r⟩ := h
  rw [z, h1] at e; cases e
theorem But.free {a l : Addr} {H H' : Hp} (b : But a H H') (h : H' l = none) (n : l ≠ a) : H l = none := by
  cases e : H l with
  | none => rfl
  | some o => rw [b _ _ n e] at h; cases h
theorem But.mut {a l : Addr} {H H' : Hp} {o : HO} (b : But a H H') (h : H l = none) : But a H (L2.upd H' l o) := fun c u n e => by
  rw [upd_ne (ne_of_none e h)]; exact b _ _ n e
theorem Pot.upd {H : Hp} {a l : Addr} {n : Int} {o : HO} (h : Pot H a n) (e : l ≠ a) : Pot (L2.upd H l o) a n := by
  obtain ⟨d, s, m, h1, r⟩ := h
  exact ⟨d, s, m, by rw [upd_ne e.symm]; exact h1, r⟩
theorem na_lt {x : Int} {n : Nat} (h0 : 0 ≤ x) (h1 : x < ((2 ^ n : Nat) : Int)) : x.natAbs < 2 ^ n := by omega
theorem bit01 (b : Bool) : (if b = true then (1 : Int) else 0).natAbs < 2 ^ 2 ∧ (0 : Int) ≤ (if b = true then (1 : Int) else 0) := by cases b <;> exact ⟨by decide, by decide⟩
set_option exponentiation.threshold 2000
section
variable {P : Program} {w : World} {K : PySem.W.Frag} {mg : Str → Option Value} {base : Heap}
def sp_L_s5_hand (K : PySem.W.Frag) : Sp := fun vs H Q _ => ∃ (a : Addr) (ns : List Int) (pl : Nat), vs = [.ref a, .int (pl : Int)] ∧ SqL K H a (ns.map V.int) ∧ pl ≤ 62 ∧ ∀ H' p, Same H H' → H p = none → Pot H' p 0 → Q (.ref p) H'
theorem ok_L_s5_hand (TX : Tx K mg) : FnOk P w K mg base CX0 1 TX.a_L_s5_hand TX.fd_L_s5_hand ["_law_script", "_law_nth"] (sp_L_s5_hand K) := by
  refine TX.f_L_s5_hand.ok sc_L_s5_hand (fun vs H Q E h => ?_) (fun cdv A outer s H vs Q E hr h => ?_)
  · obtain ⟨a, ns, pl, rfl, _⟩ := h; rfl
  · obtain ⟨a, ns, pl, rfl, hS, hpl, q⟩ := h
    refine ⟨_, (pss_cut (ps_set (i := 2) sc_L_s5_hand.nd rfl (.inl rfl) (pe_ifExp (pt_cmpR op_lt (pv 1) (pe_callB (id := "len") (k_len (K := K) rfl) (by rfl) TX.b_len (by decide +kernel) (pa_cons (pv 0) pa_nil)) (nomark _)) (pe_ix (k_ixL (K := K) rfl) (pv 0) (pv 1) (fun _ _ => rfl)) pe_int))
      (pss_cons (ps_set (i := 3) sc_L_s5_hand.nd rfl (.inl rfl) (pe_op op_mulW (pe_op op_mod (pe_callB (id := "abs") call_abs (by rfl) TX.b_abs (by decide +kernel) (pa_cons (pv 2) pa_nil)) (pe_op op_powW (pe_op op_powW pe_int pe_int) pe_int)) (pe_callTy (T := "int") call_int1 (by rfl) TX.b_int (by decide +kernel) (pa_cons (pe_cmpR op_ge (pe_callB (id := "abs") call_abs (by rfl) TX.b_abs (by decide +kernel) (pa_cons (pv 2) pa_nil)) (pe_op op_powW pe_int pe_int) (nomark _)) pa_nil))))
      (pss_cons (ps_set (i := 4) sc_L_s5_hand.nd rfl (.inl rfl) (pe_op op_add (pe_op op_add (pe_op op_add (pe_op op_mulW (pe_op op_mod (pv 2) pe_int) pe_int) (pe_op op_mulW (pe_op op_mulW pe_int (pv 1)) (pv 1))) (pe_op op_mulW pe_int (pv 1))) pe_int))
      (pss_one (ps_ret (pe_lst (pa_cons (pv 3) (pa_cons (pe_op op_mod (pv 4) pe_int) (pa_cons pe_int pa_nil))))))))), ?_⟩
    have P0 : (0 : Int) < (10 ^ (60 : Int).toNat) ^ (5 : Int).toNat := by decide +kernel
    have P1 : ((10 ^ (60 : Int).toNat) ^ (5 : Int).toNat : Int) < ((2 ^ 1000 : Nat) : Int) := by decide +kernel
    have nl1 : ∀ pl : Nat, pl ≤ 62 → (0 : Int) ≤ 7919 * (pl : Int) * (pl : Int) ∧ 7919 * (pl : Int) * (pl : Int) ≤ 7919 * 3844 := fun pl h => by
      have h1 : (pl : Int) * (pl : Int) ≤ 62 * 62 := Int.mul_le_mul (by omega) (by omega) (by omega) (by omega)
      have h2 : (0 : Int) ≤ (pl : Int) * (pl : Int) := Int.mul_nonneg (by omega) (by omega)
      rw [Int.mul_assoc]; omega
    refine ⟨fun σ' H2 => H2 = H ∧ ∃ c : Int, σ' = [some (.ref a), some (.int (pl : Int)), some (.int c), none, none], ?_, ?_⟩
    · refine ⟨_, rfl, .ref a, rfl, a, _, rfl, .inl hS, _, _, rfl, rfl, _, rfl, ?_⟩
      refine ite2 (fun h => ?_) (fun h => ?_)
      · have hlt : pl < ns.length := by
          have := of_decide_eq_true h
          rw [List.length_map] at this
          omega
        exact ⟨.ref a, rfl, _, rfl, a, _, _, .int ns[pl], rfl, rfl, hS, atI_nat (by rw [List.getElem?_map, List.getElem?_eq_getElem hlt]; rfl), rfl, _, rfl⟩
      · exact ⟨rfl, _, rfl⟩
    · rintro σ' H2 ⟨rfl, c, rfl⟩
      have c0 := Int.emod_nonneg c (show (2305843009213693951 : Int) ≠ 0 by decide)
      have c1 := Int.emod_lt_of_pos c (show (0 : Int) < 2305843009213693951 by decide)
      refine ⟨_, rfl, _, rfl, _, _, rfl, rfl, ⟨by decide, by decide +kernel⟩, _, _, rfl, rfl, ⟨by decide, by decide +kernel⟩, _, _, rfl, rfl, P0, _, rfl, _, rfl, _, _, rfl, rfl, ⟨by decide, by decide +kernel⟩, _, _, rfl, rfl, .inr ⟨_, rfl, _, _, rfl, rfl, ?_, ?_⟩⟩
      · exact wide_mul (a := 1000) (b := 2) (na_lt (Int.emod_nonneg _ (Int.ne_of_gt P0)) (Int.lt_trans (Int.emod_lt_of_pos _ P0) P1)) (bit01 _).1 (by decide) (by decide) (by decide)
      · have := nl1 pl hpl
        refine ⟨_, rfl, _, _, rfl, rfl, (show (0 : Int) < 2305843009213693951 by decide), _, _, rfl, rfl, wide_mul (a := 61) (b := 20) (by omega) (by decide) (by decide) (by decide) (by decide), _, rfl, _, _, rfl, rfl, wide_mul (a := 13) (b := 7) (by decide) (by omega) (by decide) (by decide) (by decide), _, rfl, _, _, rfl, rfl, wide_mul (a := 20) (b := 7) (by omega) (by omega) (by decide) (by decide) (by decide), _, _, rfl, rfl, _, rfl, _, _, rfl, rfl, wide_mul (a := 13) (b := 7) (by decide) (by omega) (by decide) (by decide) (by decide), _, _, rfl, rfl, _, _, rfl, rfl, ?_⟩
        refine ⟨_, rfl, _, rfl, _, _, rfl, rfl, (show (0 : Int) < 2305843009213693921 by decide), sz60 (by simp), fun p np => q _ p (same_upd np) np ?_⟩
        refine ⟨_, _, _, upd_same, ?_, Int.emod_nonneg _ (by decide), Int.lt_trans (Int.emod_lt_of_pos _ (by decide)) (by decide), by decide, by decide⟩
        refine Int.mul_nonneg (Int.emod_nonneg _ (Int.ne_of_gt P0)) ?_
        exact (bit01 _).2
def sp_L_s5_take (K : PySem.W.Frag) : Sp := fun vs H Q _ => ∃ (a : Addr) (z n : Int), vs = [.ref a, .int z] ∧ Pot H a n ∧ n ≤ 100000 ∧ 1 ≤ z ∧ z ≤ 2 ^ 64 ∧ ∀ H' r, But a H H' → Pot H' a (n + 1) → 0 ≤ r → r < z → Q (.int r) H'
theorem prime_at {m : Int} (h0 : 0 ≤ m) : ∃ v : Int, atI [V.int 2147483647, V.int 2147483629, V.int 2147483587, V.int 2147483579, V.int 2147483563, V.int 2147483549, V.int 2147483543, V.int 2147483497] (m % 8) = some (.int v) ∧ 2147483400 < v ∧ v < 2 ^ 31 := by
  have h : m % 8 = 0 ∨ m % 8 = 1 ∨ m % 8 = 2 ∨ m % 8 = 3 ∨ m % 8 = 4 ∨ m % 8 = 5 ∨ m % 8 = 6 ∨ m % 8 = 7 := by omega
  rcases h with h | h | h | h | h | h | h | h <;> rw [h]
  · exact ⟨_, rfl, by decide, by decide⟩
  · exact ⟨_, rfl, by decide, by decide⟩
  · exact ⟨_, rfl, by decide, by decide⟩
  · exact ⟨_, rfl, by decide, by decide⟩
  · exact ⟨_, rfl, by decide, by decide⟩
  · exact ⟨_, rfl, by decide, by decide⟩
  · exact ⟨_, rfl, by decide, by decide⟩
  · exact ⟨_, rfl, by decide, by decide⟩
theorem ok_L_s5_take (TX : Tx K mg) : FnOk P w K mg base CX0 1 TX.a_L_s5_take TX.fd_L_s5_take ["_law_hand", "_law_size"] (sp_L_s5_take K) := by
  refine TX.f_L_s5_take.ok sc_L_s5_take (fun vs H Q E h => ?_) (fun cdv A outer s H vs Q E hr h => ?_)
  · obtain ⟨a, z, n, rfl, _⟩ := h; rfl
  · obtain ⟨a, z, n, rfl, ⟨d, sd, m, hp, hd, hs0, hs1, hm0, hm1⟩, hn, hz1, hz2, q⟩ := h
    refine ⟨_, (pss_cons (ps_if (pt_cmpR op_gt (pe_ix (k_ixL (K := K) rfl) (pv 0) pe_int (fun _ _ => rfl)) pe_int (nomark _))
        (pss_cons (ps_set (i := 2) sc_L_s5_take.nd rfl (.inl rfl) (pe_op op_mod (pe_ix (k_ixL (K := K) rfl) (pv 0) pe_int (fun _ _ => rfl)) (pv 1)))
        (pss_cons (ps_asg (pe_op op_fdivW (pe_ix (k_ixL (K := K) rfl) (pv 0) pe_int (fun _ _ => rfl)) (pv 1)) (pg_sub (pv 0) pe_int set_list))
        (pss_one (ps_ret (pv 2)))))
        pss_nil)
      (pss_cons (ps_asg (pe_op op_add (pe_ix (k_ixL (K := K) rfl) (pv 0) pe_int (fun _ _ => rfl)) pe_int) (pg_sub (pv 0) pe_int set_list))
      (pss_cons (ps_set (i := 3) sc_L_s5_take.nd rfl (.inl rfl) (pe_lst (pa_cons pe_int (pa_cons pe_int (pa_cons pe_int (pa_cons pe_int (pa_cons pe_int (pa_cons pe_int (pa_cons pe_int (pa_cons pe_int pa_nil))))))))))
      (pss_cons (ps_set (i := 4) sc_L_s5_take.nd rfl (.inl rfl) (pe_ix (k_ixL (K := K) rfl) (pv 3) (pe_op op_mod (pe_ix (k_ixL (K := K) rfl) (pv 0) pe_int (fun _ _ => rfl)) pe_int) (fun _ _ => rfl)))
      (pss_cons (ps_set (i := 5) sc_L_s5_take.nd rfl (.inl rfl) (pe_op op_add (pe_op op_mod (pe_op op_mod (pe_op op_add (pe_ix (k_ixL (K := K) rfl) (pv 0) pe_int (fun _ _ => rfl)) (pe_op op_mulW (pe_op op_mulW pe_int (pe_ix (k_ixL (K := K) rfl) (pv 0) pe_int (fun _ _ => rfl))) (pe_ix (k_ixL (K := K) rfl) (pv 0) pe_int (fun _ _ => rfl)))) (pe_op op_mulW (pv 4) (pv 4))) (pv 4)) pe_int))
      (pss_cons (ps_set (i := 6) sc_L_s5_take.nd rfl (.inl rfl) (pe_op op_fdivW (pe_op op_mod (pe_op op_mulW (pe_op op_mod (pe_op op_mulW (pv 5) (pe_op op_add (pe_op op_mod (pv 5) pe_int) (pe_ix (k_ixL (K := K) rfl) (pv 0) pe_int (fun _ _ => rfl)))) (pv 4)) pe_int) (pv 4)) pe_int))
      (pss_cons (ps_if (pt_cmpR op_gt (pv 1) (pe_op op_powW pe_int pe_int) (nomark _))
        (pss_one (ps_set (i := 6) sc_L_s5_take.nd rfl (.inl rfl) (pe_op op_mod (pe_op op_pow (pe_op op_add (pv 6) pe_int) pe_int) (pe_op op_add (pe_op op_powW pe_int pe_int) pe_int))))
        pss_nil)
      (pss_one (ps_ret (pe_op op_mod (pv 6) (pv 1))))))))))), ?_⟩
    refine ⟨.ref a, rfl, a, _, _, .int d, rfl, rfl, .inl (.inl hp), rfl, _, _, rfl, rfl, _, rfl, ite2 (fun h => ?_) (fun h => ?_)⟩
    · refine ⟨.ref a, rfl, a, _, _, .int d, rfl, rfl, .inl (.inl hp), rfl, _, rfl, _, _, rfl, rfl, (show 0 < z by omega), ?_⟩
      refine ⟨.ref a, rfl, a, _, _, .int d, rfl, rfl, .inl (.inl hp), rfl, _, rfl, _, _, rfl, rfl, wide_div (b := 66) (by omega) (by omega) (by decide) (by decide), .ref a, rfl, a, _, 0, 0, rfl, rfl, hp, rfl, ?_⟩
      refine ⟨_, rfl, q _ _ But.upd ⟨d / z, sd, m, upd_same, Int.ediv_nonneg hd (by omega), hs0, hs1, hm0, by omega⟩ (Int.emod_nonneg _ (by omega)) (Int.emod_lt_of_pos _ (by omega))⟩
    · refine ⟨.ref a, rfl, a, _, _, .int m, rfl, rfl, .inl (.inl hp), rfl, _, _, rfl, rfl, .ref a, rfl, a, _, 2, 2, rfl, rfl, hp, rfl, ?_⟩
      have hp1 : (upd H a (.lst (List.set [V.int d, V.int sd, V.int m] 2 (V.int (m + 1))))) a = some (.lst [V.int d, V.int sd, V.int (m + 1)]) := upd_same
      have b1 : But a H (upd H a (.lst (List.set [V.int d, V.int sd, V.int m] 2 (V.int (m + 1))))) := But.upd
      generalize upd H a (.lst (List.set [V.int d, V.int sd, V.int m] 2 (V.int (m + 1)))) = H1 at hp1 b1 ⊢
      refine ⟨sz60 (by simp), fun pl npl => ?_⟩
      have s2 := same_upd (o := .lst [V.int 2147483647, V.int 2147483629, V.int 2147483587, V.int 2147483579, V.int 2147483563, V.int 2147483549, V.int 2147483543, V.int 2147483497]) npl
      have hp2 := s2 _ _ hp1
      obtain ⟨pr, hpr, pr0, pr1⟩ := prime_at (m := m + 1) (by omega)
      refine ⟨.ref pl, rfl, .ref a, rfl, a, _, _, _, rfl, rfl, .inl (.inl hp2), rfl, _, _, rfl, rfl, (show (0 : Int) < 8 by decide), pl, _, _, .int pr, rfl, rfl, .inl (.inl upd_same), hpr, ?_⟩
      have k1 : (m + 1) * (m + 1) ≤ 100001 * 100001 := Int.mul_le_mul (by omega) (by omega) (by omega) (by omega)
      have k2 : (0 : Int) ≤ (m + 1) * (m + 1) := Int.mul_nonneg (by omega) (by omega)
      have k3 : 69621 * (m + 1) * (m + 1) = 69621 * ((m + 1) * (m + 1)) := Int.mul_assoc _ _ _
      have k4 : 0 < pr * pr := Int.mul_pos (by omega) (by omega)
      refine ⟨.ref a, rfl, a, _, _, _, rfl, rfl, .inl (.inl hp2), rfl, .ref a, rfl, a, _, _, _, rfl, rfl, .inl (.inl hp2), rfl, _, _, rfl, rfl, wide_mul (a := 17) (b := 18) (by decide) (by omega) (by decide) (by decide) (by decide), .ref a, rfl, a, _, _, _, rfl, rfl, .inl (.inl hp2), rfl, _, _, rfl, rfl, wide_mul (a := 36) (b := 18) (by omega) (by omega) (by decide) (by decide) (by decide), _, _, rfl, rfl, _, rfl, _, rfl, _, _, rfl, rfl, wide_mul (a := 31) (b := 31) (by omega) (by omega) (by decide) (by decide) (by decide), _, _, rfl, rfl, k4, _, rfl, _, _, rfl, rfl, (show 0 < pr by omega), _, _, rfl, rfl, ?_⟩
      generalize hmx : (sd + 69621 * (m + 1) * (m + 1)) % (pr * pr) % pr + 1 = mx
      have mx0 : 0 < mx := by rw [← hmx]; have := Int.emod_nonneg ((sd + 69621 * (m + 1) * (m + 1)) % (pr * pr)) (show pr ≠ 0 by omega); omega
      have mx1 : mx ≤ pr := by rw [← hmx]; have := Int.emod_lt_of_pos ((sd + 69621 * (m + 1) * (m + 1)) % (pr * pr)) (show 0 < pr by omega); omega
      refine ⟨_, rfl, _, rfl, _, _, rfl, rfl, (show (0 : Int) < 1009 by decide), .ref a, rfl, a, _, _, _, rfl, rfl, .inl (.inl hp2), rfl, _, _, rfl, rfl, _, _, rfl, rfl, wide_mul (a := 32) (b := 20) (by omega) (by omega) (by decide) (by decide) (by decide), _, rfl, _, _, rfl, rfl, (show 0 < pr by omega), _, _, rfl, rfl, ?_, _, rfl, _, _, rfl, rfl, (show 0 < pr by omega), _, _, rfl, rfl, wide_div (b := 4) (by decide) (by decide) (by decide) (by decide), ?_⟩
      · refine wide_mul (a := 32) (b := 17) (na_lt (Int.emod_nonneg _ (by omega)) (Int.lt_trans (Int.emod_lt_of_pos _ (by omega)) (by omega))) (by decide) (by decide) (by decide) (by decide)
      generalize hdr : mx * (mx % 1009 + (m + 1)) % pr * 48271 % pr / 7 = dr
      have dr0 : 0 ≤ dr := by rw [← hdr]; exact Int.ediv_nonneg (Int.emod_nonneg _ (by omega)) (by decide)
      have dr1 : dr < pr := by
        rw [← hdr]
        have h1 := Int.emod_lt_of_pos (mx * (mx % 1009 + (m + 1)) % pr * 48271) (show 0 < pr by omega)
        have h2 := Int.emod_nonneg (mx * (mx % 1009 + (m + 1)) % pr * 48271) (show pr ≠ 0 by omega)
        omega
      have fin : ∀ x : Int, Q (.int (x % z)) (upd H1 pl (.lst [V.int 2147483647, V.int 2147483629, V.int 2147483587, V.int 2147483579, V.int 2147483563, V.int 2147483549, V.int 2147483543, V.int 2147483497])) := fun x =>
        q _ _ (b1.trans (But.of s2)) ⟨d, sd, m + 1, hp2, hd, hs0, hs1, by omega, by omega⟩ (Int.emod_nonneg _ (by omega)) (Int.emod_lt_of_pos _ (by omega))
      have q0 : (0 : Int) < 10 ^ (40 : Int).toNat + 121 := by decide +kernel
      refine ⟨_, rfl, _, _, rfl, rfl, ⟨by decide, by decide +kernel⟩, _, _, rfl, rfl, _, rfl, ite2 (fun h => ?_) (fun h => ?_)⟩
      · refine ⟨_, rfl, _, _, rfl, rfl, _, _, rfl, rfl, ⟨by decide, by decide, by rw [hmx, hdr]; omega⟩, _, _, rfl, rfl, ⟨by decide, by decide +kernel⟩, _, _, rfl, rfl, _, _, rfl, rfl, q0, ?_⟩
        exact ⟨_, rfl, _, rfl, _, _, rfl, rfl, (show 0 < z by omega), fin _⟩
      · exact ⟨_, rfl, _, rfl, _, _, rfl, rfl, (show 0 < z by omega), fin _⟩
end
section
variable {P : Program} {w : World} {K : PySem.W.Frag} {mg : Str → Option Value} {base : Heap}
def sp_run_lengths (K : PySem.W.Frag) : Sp := fun vs H Q _ => ∃ k n : Nat, vs = [.int (k : Int), .int (n : Int)] ∧ 1 ≤ k ∧ k ≤ 60 ∧ n ≤ 2 ^ 62 ∧ ∀ H' p, Same H H' → SqT K H' p (vi (rl k n)) → Q (.ref p) H'
theorem ok_run_lengths (TX : Tx K mg) : FnOk P w K mg base CX0 3 TX.a_run_lengths TX.fd_run_lengths ["k", "n"] (sp_run_lengths K) := by
  refine TX.f_run_lengths.ok sc_run_lengths (fun vs H Q E h => ?_) (fun cdv A outer s H vs Q E hr h => ?_)
  · obtain ⟨k, n, rfl, _⟩ := h; rfl
  · obtain ⟨k, n, rfl, hk, hk2, hn, q⟩ := h
    refine ⟨_, (pss_cons (ps_set (i := 2) sc_run_lengths.nd rfl (.inl rfl) (pe_lst pa_nil))
      (pss_cons (ps_set (i := 3) sc_run_lengths.nd rfl (.inl rfl) (pv 1))
      (pss_cons (ps_set (i := 4) sc_run_lengths.nd rfl (.inl rfl) (pv 0))
      (pss_cons (ps_while PassesOwn.never (pt_cmpR op_gt (pv 3) pe_int (nomark _))
        (pss_cons (ps_set (i := 5) sc_run_lengths.nd rfl (.inl rfl) (pe_call (ok_choose TX) (hr.mono (by decide)) (by rfl) TX.g_choose TX.f_choose.kp TX.bd_choose .nil pass0 (pa_cons (pe_op op_add (pe_op op_sub (pv 4) pe_int) (pe_call (ok_writes_needed TX) (hr.mono (by decide)) (by rfl) TX.g_writes_needed TX.f_writes_needed.kp TX.bd_writes_needed .nil pass0 (pa_cons (pv 3) (pa_cons (pv 4) pa_nil)))) (pa_cons (pv 4) pa_nil))))
        (pss_cons (ps_expr (pe_bm PySem.F.plainAttrs_list PySem.F.slot_list_append PySem.F.type_list_append mt_append (pv 2) (pa_cons (pv 5) pa_nil)))
        (pss_cons (ps_aug (i := 3) sc_run_lengths.nd rfl (.inl rfl) (pv 5) ip_sub)
        (pss_one (ps_aug (i := 4) sc_run_lengths.nd rfl (.inl rfl) pe_int ip_sub))))))
      (pss_one (ps_ret (pe_callTy (T := "tuple") (k_tupOf (K := K) rfl) (by rfl) TX.b_tuple (by decide +kernel) (pa_cons (pv 2) pa_nil)))))))), ?_⟩
    refine ⟨sz60 (by simp), fun l nl => ⟨_, rfl, _, rfl, ?_⟩⟩
    have hlen := rl_len k n
    refine ⟨fun m σ H' => ∃ (acc : List Nat) (t r : Nat) (y : Option V), σ = [some (.int (k : Int)), some (.int (n : Int)), some (.ref l), some (.int (r : Int)), some (.int (t : Int)), y] ∧ Same H H' ∧ H' l = some (.lst (vi acc)) ∧ acc ++ rl t r = rl k n ∧ t ≤ 60 ∧ r ≤ 2 ^ 62 ∧ (t = 0 → r = 0) ∧ m = t, ⟨k, [], k, n, none, rfl, same_upd nl, upd_same, rfl, hk2, hn, by omega, rfl⟩, ?_⟩
    rintro m σ H' ⟨acc, t, r, y, rfl, s1, h1, h2, h3, h4, h5, rfl⟩
    refine ⟨_, rfl, _, _, rfl, rfl, _, rfl, ?_⟩
    by_cases hr0 : r = 0
    · refine decF (by omega) ?_
      subst hr0
      rw [rl_zero, List.append_nil] at h2
      subst h2
      exact ⟨.ref l, rfl, l, _, rfl, .inl ⟨.inl (.inl h1), fun p np => q _ _ (s1.trans (same_upd np)) (.inl (.inl upd_same))⟩⟩
    · refine decT (by omega) ⟨_, fun _ _ h => h, ?_⟩
      obtain ⟨j, rfl⟩ : ∃ j, m = j + 1 := ⟨m - 1, by omega⟩
      have hl1 := lw_pos (k := j + 1) (by omega) hr0
      have hl2 := lw_le (k := j + 1) (n := r) (by omega)
      have hT := top_le (k := j) hr0
      have eT : ((j + 1 : Nat) : Int) - 1 + (lw (j + 1) r : Int) = ((j + lw (j + 1) r : Nat) : Int) := by omega
      refine ⟨_, rfl, _, _, rfl, rfl, _, rfl, _, rfl, r, j + 1, rfl, by omega, by omega, h4, _, _, rfl, rfl, _, rfl, j + lw (j + 1) r, j + 1, ?_, by omega, by omega, by omega, ?_⟩
      · show [V.int _, V.int _] = [V.int _, V.int _]
        rw [eT]
      have hacc : acc.length ≤ 60 := by
        have := congrArg List.length h2
        rw [List.length_append] at this
        omega
      refine ⟨.ref l, rfl, .inl ⟨rfl, _, .inl (.inl h1)⟩, _, rfl, l, _, _, rfl, rfl, h1, sz61 (by rw [vi_len]; omega), ?_⟩
      refine ⟨_, rfl, _, rfl, _, _, rfl, rfl, _, rfl, _, _, rfl, rfl, j, by omega, acc ++ [bin (j + lw (j + 1) r) (j + 1)], j, r - bin (j + lw (j + 1) r) (j + 1), some (.int (bin (j + lw (j + 1) r) (j + 1) : Int)), ?_, Same.mut s1 nl, ?_, ?_, by omega, by omega, ?_, rfl⟩
      · show [_, _, _, _, _, _] = [_, _, _, _, _, _]
        simp only [List.cons.injEq, Option.some.injEq, V.int.injEq, and_true, true_and]
        omega
      · rw [vi_app]; exact upd_same
      · rw [← h2, rl_succ hr0]; simp
      · intro e; subst e; exact rest_zero hr0
def sp_policy_merge (K : PySem.W.Frag) : Sp := fun vs H Q _ => ∃ k n : Nat, vs = [.int (k : Int), .int (n : Int)] ∧ 1 ≤ k ∧ k ≤ 60 ∧ n ≤ 10 ^ 18 ∧ ∀ H', Same H H' → Q (.int (((rl k n).length : Int) + 1 - ((rl k (n + 1)).length : Int))) H'
theorem ok_policy_merge (TX : Tx K mg) : FnOk P w K mg base CX0 5 TX.a_policy_merge TX.fd_policy_merge ["k", "i"] (sp_policy_merge K) := by
  refine TX.f_policy_merge.ok sc_policy_merge (fun vs H Q E h => ?_) (fun cdv A outer s H vs Q E hr h => ?_)
  · obtain ⟨k, n, rfl, _⟩ := h; rfl
  · obtain ⟨k, n, rfl, hk, hk2, hn, q⟩ := h
    refine ⟨_, (pss_cons (ps_expr (pe_call (ok_check_runs TX) (hr.mono (by decide)) (by rfl) TX.g_check_runs TX.f_check_runs.kp TX.bd_check_runs .nil pass0 (pa_cons (pv 0) pa_nil)))
      (pss_cons (ps_expr (pe_call (ok_check_number TX) (hr.mono (by decide)) (by rfl) TX.g_check_number TX.f_check_number.kp TX.bd_check_number .nil pass0 (pa_cons (pv 1) (pa_cons (pe_glob (v := .int (1000000000000000000)) (by rfl) TX.c_MOST_POSITION ⟨_, rfl⟩) pa_nil))))
      (pss_one (ps_ret (pe_op op_sub (pe_op op_add (pe_callB (id := "len") (k_len (K := K) rfl) (by rfl) TX.b_len (by decide +kernel) (pa_cons (pe_call (ok_run_lengths TX) (hr.mono (by decide)) (by rfl) TX.g_run_lengths TX.f_run_lengths.kp TX.bd_run_lengths .nil pass0 (pa_cons (pv 0) (pa_cons (pv 1) pa_nil))) pa_nil)) pe_int) (pe_callB (id := "len") (k_len (K := K) rfl) (by rfl) TX.b_len (by decide +kernel) (pa_cons (pe_call (ok_run_lengths TX) (hr.mono (by decide)) (by rfl) TX.g_run_lengths TX.f_run_lengths.kp TX.bd_run_lengths .nil pass0 (pa_cons (pv 0) (pa_cons (pe_op op_add (pv 1) pe_int) pa_nil))) pa_nil))))))), ?_⟩
    refine ⟨_, rfl, _, rfl, by omega, by omega, _, rfl, _, _, rfl, by omega, by omega, ?_⟩
    refine ⟨_, rfl, _, rfl, k, n, rfl, hk, hk2, by omega, fun H1 p1 s1 h1 => ⟨p1, _, rfl, .inr h1, _, _, rfl, rfl, ?_⟩⟩
    refine ⟨_, rfl, _, rfl, _, _, rfl, rfl, k, n + 1, rfl, hk, hk2, by omega, fun H2 p2 s2 h2 => ⟨p2, _, rfl, .inr h2, _, _, rfl, rfl, ?_⟩⟩
    have := q H2 (s1.trans s2)
    rw [vi_len, vi_len]
    exact this
def sp_policy_runs (K : PySem.W.Frag) : Sp := fun vs H Q _ => ∃ k n : Nat, vs = [.int (k : Int), .int (n : Int)] ∧ 1 ≤ k ∧ k ≤ 60 ∧ n ≤ 10 ^ 18 ∧ ∀ H' p, Same H H' → SqT K H' p (vi (rl k n)) → Q (.ref p) H'
theorem ok_policy_runs (TX : Tx K mg) : FnOk P w K mg base CX0 5 TX.a_policy_runs TX.fd_policy_runs ["k", "n"] (sp_policy_runs K) := by
  refine TX.f_policy_runs.ok sc_policy_runs (fun vs H Q E h => ?_) (fun cdv A outer s H vs Q E hr h => ?_)
  · obtain ⟨k, n, rfl, _⟩ := h; rfl
  · obtain ⟨k, n, rfl, hk, hk2, hn, q⟩ := h
    refine ⟨_, (pss_cons (ps_expr (pe_call (ok_check_runs TX) (hr.mono (by decide)) (by rfl) TX.g_check_runs TX.f_check_runs.kp TX.bd_check_runs .nil pass0 (pa_cons (pv 0) pa_nil)))
      (pss_cons (ps_expr (pe_call (ok_check_number TX) (hr.mono (by decide)) (by rfl) TX.g_check_number TX.f_check_number.kp TX.bd_check_number .nil pass0 (pa_cons (pv 1) (pa_cons (pe_glob (v := .int (1000000000000000000)) (by rfl) TX.c_MOST_POSITION ⟨_, rfl⟩) pa_nil))))
      (pss_one (ps_ret (pe_call (ok_run_lengths TX) (hr.mono (by decide)) (by rfl) TX.g_run_lengths TX.f_run_lengths.kp TX.bd_run_lengths .nil pass0 (pa_cons (pv 0) (pa_cons (pv 1) pa_nil))))))), ?_⟩
    exact ⟨_, rfl, _, rfl, by omega, by omega, _, rfl, _, _, rfl, by omega, by omega, _, rfl, _, rfl, k, n, rfl, hk, hk2, by omega, q⟩
end
section
variable {P : Program} {w : World} {K : PySem.W.Frag} {mg : Str → Option Value} {base : Heap}
def sp_check_budgets (K : PySem.W.Frag) : Sp := fun vs H Q _ => ∃ k c m : Int, vs = [.int k, .int c, .int m] ∧ 0 ≤ k ∧ k ≤ m ∧ 0 ≤ c ∧ c ≤ m ∧ ∀ H', Same H H' → Q .non H'
theorem ok_check_budgets (TX : Tx K mg) : FnOk P w K mg base CX0 4 TX.a_check_budgets TX.fd_check_budgets ["k", "c", "most"] (sp_check_budgets K) := by
  refine TX.f_check_budgets.ok sc_check_budgets (fun vs H Q E h => ?_) (fun cdv A outer s H vs Q E hr h => ?_)
  · obtain ⟨k, c, m, rfl, _⟩ := h; rfl
  · obtain ⟨k, c, m, rfl, k0, k1, c0, c1, q⟩ := h
    refine ⟨_, (pss_one (ps_for PassesOwn.never rfl (k_piT (K := K) rfl (pe_tup (pa_cons (pv 0) (pa_cons (pv 1) pa_nil)))) (pg_name (i := 3) sc_check_budgets.nd rfl (.inl rfl))
        (pss_one (ps_if (pt_not (pt_val (pe_call (ok_is_count_up_to TX) (hr.mono (by decide)) (by rfl) TX.g_is_count_up_to TX.f_is_count_up_to.kp TX.bd_is_count_up_to .nil pass0 (pa_cons (pv 3) (pa_cons (pv 2) pa_nil)))))
          (pss_one ps_never)
          pss_nil)))), ?_⟩
    refine ⟨_, rfl, _, rfl, sz60 (by simp), fun t nt => ⟨t, rfl, ⟨_, .inl (.inl upd_same)⟩, for_tup (K := K) (xs := [V.int k, V.int c]) (fun i σ H' => H' = upd H t (.tup [V.int k, V.int c]) ∧ ∃ y, σ = [some (.int k), some (.int c), some (.int m), y]) ⟨rfl, none, rfl⟩ (fun i σ H' _ h => by rw [h.1]; exact .inl (.inl upd_same)) ?_ ?_⟩⟩
    · rintro i x σ H' hx ⟨rfl, y, rfl⟩
      have hb : ∃ b : Int, x = .int b ∧ 0 ≤ b ∧ b ≤ m := by
        match i, hx with
        | 0, hx => cases hx; exact ⟨k, rfl, k0, k1⟩
        | 1, hx => cases hx; exact ⟨c, rfl, c0, c1⟩
        | i + 2, hx => simp at hx
      obtain ⟨b, rfl, b0, b1⟩ := hb
      exact ⟨_, rfl, _, rfl, _, _, rfl, true, by rw [decide_eq_true b0, decide_eq_true b1]; rfl, iteF ⟨rfl, _, rfl⟩⟩
    · rintro σ H' ⟨rfl, y, rfl⟩
      exact q _ (same_upd nt)
def isSta (k c : Nat) (st : List Nat) : Bool := decide (st.length ≤ k) && st.all fun x => decide (1 ≤ x) && decide (x ≤ c)
theorem isSta_iff {k c : Nat} {st : List Nat} : isSta k c st = true ↔ Sta k c st := by
  unfold isSta Sta
  simp only [Bool.and_eq_true, decide_eq_true_eq, List.all_eq_true]
def sp_lifetime (K : PySem.W.Frag) : Sp := fun vs H Q _ => ∃ k c : Nat, vs = [.int (k : Int), .int (c : Int)] ∧ k ≤ 60 ∧ c ≤ 60 ∧ ∀ H', Same H H' → Q (.int ((bin (k + c) k : Int) - 1)) H'
theorem ok_lifetime (TX : Tx K mg) : FnOk P w K mg base CX0 5 TX.a_lifetime TX.fd_lifetime ["k", "c"] (sp_lifetime K) := by
  refine TX.f_lifetime.ok sc_lifetime (fun vs H Q E h => ?_) (fun cdv A outer s H vs Q E hr h => ?_)
  · obtain ⟨k, c, rfl, _⟩ := h; rfl
  · obtain ⟨k, c, rfl, hk, hc, q⟩ := h
    refine ⟨_, (pss_cons (ps_expr (pe_call (ok_check_budgets TX) (hr.mono (by decide)) (by rfl) TX.g_check_budgets TX.f_check_budgets.kp TX.bd_check_budgets .nil pass0 (pa_cons (pv 0) (pa_cons (pv 1) (pa_cons (pe_glob (v := .int (60)) (by rfl) TX.c_MOST_BUDGET ⟨_, rfl⟩) pa_nil)))))
      (pss_one (ps_ret (pe_op op_sub (pe_call (ok_choose TX) (hr.mono (by decide)) (by rfl) TX.g_choose TX.f_choose.kp TX.bd_choose .nil pass0 (pa_cons (pe_op op_add (pv 0) (pv 1)) (pa_cons (pv 0) pa_nil))) pe_int)))), ?_⟩
    exact ⟨_, rfl, _, rfl, _, _, _, rfl, by omega, by omega, by omega, by omega, fun H1 s1 => ⟨_, rfl, _, rfl, _, _, rfl, rfl, _, rfl, k + c, k, rfl, by omega, by omega, by omega, _, _, rfl, rfl, q H1 s1⟩⟩
end
section
variable {P : Program} {w : World} {K : PySem.W.Frag} {mg : Str → Option Value} {base : Heap}
/-- a schedule, with the number of runs before each flush -/
def SchR (p : List Nat) (r : Nat → Nat) : Prop := r 0 = 0 ∧ ∀ i m, p[i]? = some m → m ≤ r i ∧ r (i + 1) = r i - m + 1
def sp_policy_schedule (K : PySem.W.Frag) : Sp := fun vs H Q _ => ∃ k n : Nat, vs = [.int (k : Int), .int (n : Int)] ∧ 1 ≤ k ∧ k ≤ 60 ∧ n ≤ 60 ∧ ∀ H' p, Same H H' → SqT K H' p (vi ((List.range n).map (pm k))) → Q (.ref p) H'
theorem ok_policy_schedule (TX : Tx K mg) : FnOk P w K mg base CX0 6 TX.a_policy_schedule TX.fd_policy_schedule ["k", "n"] (sp_policy_schedule K) := by
  refine TX.f_policy_schedule.ok sc_policy_schedule (fun vs H Q E h => ?_) (fun cdv A outer s H vs Q E hr h => ?_)
  · obtain ⟨k, n, rfl, _⟩ := h; rfl
  · obtain ⟨k, n, rfl, hk, hk2, hn, q⟩ := h
    refine ⟨_, (pss_cons (ps_expr (pe_call (ok_check_runs TX) (hr.mono (by decide)) (by rfl) TX.g_check_runs TX.f_check_runs.kp TX.bd_check_runs .nil pass0 (pa_cons (pv 0) pa_nil)))
      (pss_cons (ps_expr (pe_call (ok_check_number TX) (hr.mono (by decide)) (by rfl) TX.g_check_number TX.f_check_number.kp TX.bd_check_number .nil pass0 (pa_cons (pv 1) (pa_cons (pe_glob (v := .int (60)) (by rfl) TX.c_MOST_FLUSHES ⟨_, rfl⟩) pa_nil))))
      (pss_one (ps_ret (pe_callTy (T := "tuple") (k_tupOf (K := K) rfl) (by rfl) TX.b_tuple (by decide +kernel) (pa_cons (pe_lc (own := [("flush", 2)]) (by rfl) sc_policy_schedule.nd (pi_range1 (by rfl) TX.b_range (pa_cons (pv 1) pa_nil)) (blkOk_by (own := [("flush", 2)]) (N := N_policy_schedule) (sc := defScope s_policy_schedule) (by decide +kernel)) (fun _ _ _ _ _ => (pg_name (i := 2) sc_policy_schedule.nd rfl (Or.inl rfl))) (fun _ _ _ _ _ => pts_nil) (fun _ _ _ _ _ => (pe_call (ok_policy_merge TX) (hr.mono (by decide)) (by rfl) TX.g_policy_merge TX.f_policy_merge.kp TX.bd_policy_merge .nil pass0 (pa_cons (pv 0) (pa_cons (pv 2) pa_nil))))) pa_nil)))))), ?_⟩
    refine ⟨_, rfl, _, rfl, by omega, by omega, _, rfl, _, _, rfl, by omega, by omega, ?_⟩
    refine ⟨_, rfl, _, rfl, by omega, by omega, fun D nD => lc_ints (K := K) walk_range (ci ((List.range n).map (pm k))) (by rw [ci, List.length_map, List.length_map, List.length_range]; omega) (by omega) nD (fun _ _ => trivial) ?_ ?_ (fun x σ' H' Q Q' h => h _ _) (fun σ' H' Q Q' h => h _ _)⟩
    · rintro i x H2 H2' hi s2 ⟨rfl, rfl⟩ b hb R hR
      have hi' : i < n := by omega
      rw [ci, List.getElem?_map, List.getElem?_map, List.getElem?_range hi'] at hb
      cases hb
      refine ⟨rfl, rfl, _, rfl, _, rfl, k, i, ?_, hk, hk2, by omega, fun H3 s3 => ?_⟩
      · show [V.int _, V.int _] = [V.int _, V.int _]
        rw [show (0 : Int) + (i : Int) = (i : Int) by omega]
      · rw [pm_int hk]; exact hR _ s3
    · intro H2 s2 hD
      exact ⟨D, _, rfl, .inl ⟨.inl (.inl hD), fun p np => q _ _ (s2.trans (same_upd np)) (by rw [vi_ci]; exact .inl (.inl upd_same))⟩⟩
end
/-! ### counts by a simulation of the runs -/
/-- the dict of counts, its keys 0 .. n - 1 in their order -/
def kl (n : Nat) (f : Nat → Nat) : List (L2.Key × V) := (List.range n).map fun (j : Nat) => ((.inl (j : Int) : L2.Key), V.int (f j : Int))
theorem kl_len (n : Nat) (f : Nat → Nat) : (kl n f).length = n := by simp [kl]
theorem kl_succ (n : Nat) (f : Nat → Nat) : kl (n + 1) f = kl n f ++ [((.inl (n : Int) : L2.Key), V.int (f n : Int))] := by
  unfold kl
  rw [List.range_succ, List.map_append]
  rfl
theorem kl_congr {n : Nat} {f g : Nat → Nat} (h : ∀ j, j < n → f j = g j) : kl n f = kl n g := by
  unfold kl
  refine List.map_congr_left fun j hj => ?_
  rw [h j (List.mem_range.mp hj)]
theorem key_ne {m n : Nat} (h : m ≠ n) : ¬ ((.inl (m : Int) : L2.Key) = .inl (n : Int)) := fun e => h (by injection e with e; omega)
theorem kl_val (f : Nat → Nat) : ∀ (n m : Nat), valV (kl n f) (.inl (m : Int) : L2.Key) = if m < n then some (V.int (f m : Int)) else none
  | 0, m => by rw [if_neg (by omega)]; rfl
  | n + 1, m => by
    have h0 : valV (kl n f) (.inl (n : Int) : L2.Key) = none := by rw [kl_val f n n, if_neg (by omega)]
    rw [kl_succ, valV_snoc _ _ _ _ h0]
    by_cases e : m = n
    · subst e
      rw [if_pos rfl, if_pos (by omega)]
    · rw [if_neg (key_ne e), kl_val f n m]
      by_cases h : m < n
      · rw [if_pos h, if_pos (by omega)]
      · rw [if_neg h, if_neg (by omega)]
theorem kl_get {n m : Nat} (f : Nat → Nat) (h : m < n) : (kl n f)[m]? = some ((.inl (m : Int) : L2.Key), V.int (f m : Int)) := by
  unfold kl
  rw [List.getElem?_map, List.getElem?_range h]
  rfl
def bumps (f : Nat → Nat) (ms : List Nat) : Nat → Nat := fun j => f j + ms.count j
theorem bumps_nil (f : Nat → Nat) : bumps f [] = f := by funext j; simp [bumps]
theorem bumps_snoc (f : Nat → Nat) (ms : List Nat) (m : Nat) : bumps f (ms ++ [m]) = fun j => if j = m then bumps f ms m + 1 else bumps f ms j := by
  funext j
  unfold bumps
  rw [List.count_append]
  by_cases e : j = m
  · subst e
    rw [if_pos rfl]
    simp
    omega
  · rw [if_neg e]
    have : List.count j [m] = 0 := List.count_eq_zero.mpr (by simpa using e)
    omega
theorem kl_put_old {n m : Nat} {f : Nat → Nat} {v : Nat} (h : m < n) : putK (kl n f) (.inl (m : Int) : L2.Key) (V.int (v : Int)) = kl n (fun j => if j = m then v else f j) := by
  unfold putK
  rw [if_pos (by rw [valV_any, kl_val, if_pos h]; rfl)]
  unfold kl
  rw [List.map_map]
  refine List.map_congr_left fun j hj => ?_
  show (if ((.inl (j : Int) : L2.Key) = .inl (m : Int)) then ((.inl (j : Int) : L2.Key), V.int (v : Int)) else ((.inl (j : Int) : L2.Key), V.int (f j : Int))) = ((.inl (j : Int) : L2.Key), V.int (((if j = m then v else f j) : Nat) : Int))
  by_cases e : j = m
  · subst e
    rw [if_pos rfl, if_pos rfl]
  · rw [if_neg (key_ne e), if_neg e]
theorem kl_put_new {n : Nat} {f : Nat → Nat} {v : Nat} : putK (kl n f) (.inl (n : Int) : L2.Key) (V.int (v : Int)) = kl (n + 1) (fun j => if j = n then v else f j) := by
  rw [putK_new _ (by rw [kl_val, if_neg (by omega)]), kl_succ, if_pos rfl]
  congr 1
  refine kl_congr fun j hj => ?_
  rw [if_neg (by omega)]
/-- a run's greatest count -/
def lev (f : Nat → Nat) (r : List Nat) : Nat := mx (r.map f)
/-- the runs as lists of flushes, how often each flush's data has been written, and the state -/
structure Prof (i : Nat) (R : List (List Nat)) (f : Nat → Nat) (s : List Nat) : Prop where
  cnt : ∀ j, R.flatten.count j = if j < i then 1 else 0
  lv : s = R.map (lev f)
  ne : ∀ r, r ∈ R → r ≠ []
  new : ∀ j, i ≤ j → f j = 0
  len : R.flatten.length = i
theorem Prof.zero : Prof 0 [] (fun _ => 0) [] := ⟨fun j => by simp, rfl, fun r h => (nomatch h), fun _ _ => rfl, rfl⟩
theorem Prof.rl {i : Nat} {R : List (List Nat)} {f : Nat → Nat} {s : List Nat} (h : Prof i R f s) : R.length = s.length := by rw [h.lv, List.length_map]
theorem Prof.lt {i : Nat} {R : List (List Nat)} {f : Nat → Nat} {s : List Nat} (h : Prof i R f s) {r : List Nat} {j : Nat} (hr : r ∈ R) (hj : j ∈ r) : j < i := by
  have h0 : j ∈ R.flatten := List.mem_flatten.mpr ⟨r, hr, hj⟩
  have h1 := List.count_pos_iff.mpr h0
  rw [h.cnt] at h1
  split at h1 <;> omega
theorem count_rev (j : Nat) : ∀ l : List (List Nat), l.reverse.flatten.count j = l.flatten.count j
  | [] => rfl
  | x :: l => by
    rw [List.reverse_cons, List.flatten_append, List.count_append, count_rev j l]
    simp only [List.flatten_cons, List.flatten_nil, List.append_nil, List.count_append]
    omega
theorem len_rev : ∀ l : List (List Nat), l.reverse.flatten.length = l.flatten.length
  | [] => rfl
  | x :: l => by
    rw [List.reverse_cons, List.flatten_append, List.length_append, len_rev l]
    simp only [List.flatten_cons, List.flatten_nil, List.append_nil, List.length_append]
    omega
theorem mem_rev {j : Nat} {l : List (List Nat)} : j ∈ l.reverse.flatten ↔ j ∈ l.flatten := by
  simp only [List.mem_flatten, List.mem_reverse]
theorem len_in : ∀ {R : List (List Nat)} {r : List Nat}, r ∈ R → r.length ≤ R.flatten.length
  | x :: R, r, h => by
    rw [List.flatten_cons, List.length_append]
    rcases List.mem_cons.mp h with e | h
    · rw [e]; omega
    · have := len_in h; omega
theorem len_le : ∀ {R : List (List Nat)}, (∀ r, r ∈ R → r ≠ []) → R.length ≤ R.flatten.length
  | [], _ => Nat.zero_le _
  | x :: R, h => by
    have h1 := len_le (R := R) fun r hr => h r (List.mem_cons_of_mem _ hr)
    have h2 : x ≠ [] := h x (List.mem_cons_self ..)
    have h3 : 0 < x.length := List.length_pos_iff.mpr h2
    rw [List.flatten_cons, List.length_append, List.length_cons]
    omega
/-- the run that flush i writes out of the runs l -/
def mrg (l : List (List Nat)) (i : Nat) : List Nat := l.reverse.flatten ++ [i]
theorem mrg_succ {l : List (List Nat)} {t : Nat} {x : List Nat} (i : Nat) (h : l[t]? = some x) : mrg (l.take (t + 1)) i = x ++ mrg (l.take t) i := by
  unfold mrg
  rw [List.take_add_one, h]
  show (l.take t ++ [x]).reverse.flatten ++ [i] = _
  rw [List.reverse_append]
  simp
theorem Prof.step {i m : Nat} {R : List (List Nat)} {f : Nat → Nat} {s : List Nat} (h : Prof i R f s) (hm : m ≤ R.length) :
    Prof (i + 1) (R.take (R.length - m) ++ [mrg (R.drop (R.length - m)) i]) (bumps f (mrg (R.drop (R.length - m)) i)) (sa s m) := by
  have hR := h.rl
  have hs := h.lv
  have hcut : R = R.take (R.length - m) ++ R.drop (R.length - m) := (List.take_append_drop _ _).symm
  obtain ⟨A, hA⟩ : ∃ A, A = R.take (R.length - m) := ⟨_, rfl⟩
  obtain ⟨B, hB⟩ : ∃ B, B = R.drop (R.length - m) := ⟨_, rfl⟩
  rw [← hA, ← hB] at hcut
  rw [← hA, ← hB]
  have cAB : ∀ j, A.flatten.count j + B.flatten.count j = if j < i then 1 else 0 := fun j => by
    have := h.cnt j
    rw [hcut, List.flatten_append, List.count_append] at this
    exact this
  have cM : ∀ j, (mrg B i).count j = B.flatten.count j + if j = i then 1 else 0 := fun j => by
    unfold mrg
    rw [List.count_append, count_rev]
    by_cases e : j = i
    · subst e; simp
    · rw [if_neg e]
      have : List.count j [i] = 0 := List.count_eq_zero.mpr (by simpa using e)
      omega
  have hBi : ∀ r, r ∈ B → ∀ j, j ∈ r → j < i := fun r hr j hj => h.lt (r := r) (by rw [hcut]; exact List.mem_append_right _ hr) hj
  have hAi : ∀ r, r ∈ A → ∀ j, j ∈ r → j < i := fun r hr j hj => h.lt (r := r) (by rw [hcut]; exact List.mem_append_left _ hr) hj
  refine ⟨fun j => ?_, ?_, fun r hr => ?_, fun j hj => ?_, ?_⟩
  · rw [List.flatten_append, List.count_append]
    have h1 := cAB j
    have h2 := cM j
    simp only [List.flatten_cons, List.flatten_nil, List.append_nil]
    rw [h2]
    by_cases e : j = i
    · subst e
      rw [if_neg (by omega)] at h1
      rw [if_pos rfl, if_pos (by omega)]; omega
    · rw [if_neg e]
      by_cases l : j < i
      · rw [if_pos l] at h1; rw [if_pos (by omega)]; omega
      · rw [if_neg l] at h1; rw [if_neg (by omega)]; omega
  · -- the levels
    have hsl : s.length - m = R.length - m := by omega
    have e1 : s.take (s.length - m) = A.map (lev f) := by rw [hsl, hs, ← List.map_take, ← hA]
    have e2 : s.drop (s.length - m) = B.map (lev f) := by rw [hsl, hs, ← List.map_drop, ← hB]
    unfold sa
    rw [e1, e2, List.map_append]
    congr 1
    · refine List.map_congr_left fun r hr => ?_
      unfold lev
      congr 1
      refine List.map_congr_left fun j hj => ?_
      have hji := hAi r hr j hj
      have h1 := cAB j
      rw [if_pos hji] at h1
      have h2 : 0 < A.flatten.count j := List.count_pos_iff.mpr (List.mem_flatten.mpr ⟨r, hr, hj⟩)
      have h3 := cM j
      rw [if_neg (by omega)] at h3
      unfold bumps
      omega
    · show [1 + mx (B.map (lev f))] = [lev (bumps f (mrg B i)) (mrg B i)]
      congr 1
      have bB : ∀ r, r ∈ B → ∀ j, j ∈ r → bumps f (mrg B i) j = f j + 1 := fun r hr j hj => by
        have hji := hBi r hr j hj
        have h1 := cAB j
        rw [if_pos hji] at h1
        have h2 : 0 < B.flatten.count j := List.count_pos_iff.mpr (List.mem_flatten.mpr ⟨r, hr, hj⟩)
        have h3 := cM j
        rw [if_neg (by omega)] at h3
        unfold bumps
        omega
      have bi : bumps f (mrg B i) i = 1 := by
        have h1 := cAB i
        rw [if_neg (by omega)] at h1
        have h3 := cM i
        rw [if_pos rfl] at h3
        have := h.new i (Nat.le_refl _)
        unfold bumps
        omega
      have hi : 1 ≤ lev (bumps f (mrg B i)) (mrg B i) := by
        rw [← bi]
        exact mx_mem (List.mem_map.mpr ⟨i, by unfold mrg; simp, rfl⟩)
      refine Nat.le_antisymm ?_ ?_
      · have h1 : mx (B.map (lev f)) ≤ lev (bumps f (mrg B i)) (mrg B i) - 1 := mx_le fun x hx => by
          obtain ⟨r, hr, rfl⟩ := List.mem_map.mp hx
          refine mx_le fun y hy => ?_
          obtain ⟨j, hj, rfl⟩ := List.mem_map.mp hy
          have h2 : bumps f (mrg B i) j ≤ lev (bumps f (mrg B i)) (mrg B i) := mx_mem (List.mem_map.mpr ⟨j, by unfold mrg; exact List.mem_append_left _ (mem_rev.mpr (List.mem_flatten.mpr ⟨r, hr, hj⟩)), rfl⟩)
          rw [bB r hr j hj] at h2
          omega
        omega
      · refine mx_le fun x hx => ?_
        obtain ⟨j, hj, rfl⟩ := List.mem_map.mp hx
        unfold mrg at hj
        rcases List.mem_append.mp hj with hj | hj
        · obtain ⟨r, hr, hj⟩ := List.mem_flatten.mp (mem_rev.mp hj)
          rw [bB r hr j hj]
          have h1 : f j ≤ lev f r := mx_mem (List.mem_map.mpr ⟨j, hj, rfl⟩)
          have h2 : lev f r ≤ mx (B.map (lev f)) := mx_mem (List.mem_map.mpr ⟨r, hr, rfl⟩)
          omega
        · have e : j = i := by simpa using hj
          rw [e, bi]; omega
  · rcases List.mem_append.mp hr with hr | hr
    · exact h.ne r (by rw [hcut]; exact List.mem_append_left _ hr)
    · have e : r = mrg B i := by simpa using hr
      rw [e]; unfold mrg; simp
  · have h0 := h.new j (by omega)
    have h1 := cAB j
    rw [if_neg (by omega)] at h1
    have h3 := cM j
    rw [if_neg (by omega)] at h3
    unfold bumps
    omega
  · have := h.len
    rw [hcut, List.flatten_append, List.length_append] at this
    rw [List.flatten_append, List.length_append]
    simp only [List.flatten_cons, List.flatten_nil, List.append_nil]
    unfold mrg
    rw [List.length_append, len_rev]
    simp only [List.length_cons, List.length_nil]
    omega
theorem Prof.top {i : Nat} {R : List (List Nat)} {f : Nat → Nat} {s : List Nat} (h : Prof i R f s) : mx ((List.range i).map f) = mx s := by
  rw [h.lv]
  refine Nat.le_antisymm (mx_le fun x hx => ?_) (mx_le fun x hx => ?_)
  · obtain ⟨j, hj, rfl⟩ := List.mem_map.mp hx
    have hj := List.mem_range.mp hj
    have h1 := h.cnt j
    rw [if_pos hj] at h1
    obtain ⟨r, hr, hjr⟩ := List.mem_flatten.mp (List.count_pos_iff.mp (by omega : 0 < R.flatten.count j))
    have h2 : f j ≤ lev f r := mx_mem (List.mem_map.mpr ⟨j, hjr, rfl⟩)
    have h3 : lev f r ≤ mx (R.map (lev f)) := mx_mem (List.mem_map.mpr ⟨r, hr, rfl⟩)
    omega
  · obtain ⟨r, hr, rfl⟩ := List.mem_map.mp hx
    refine mx_le fun y hy => ?_
    obtain ⟨j, hj, rfl⟩ := List.mem_map.mp hy
    exact mx_mem (List.mem_map.mpr ⟨j, List.mem_range.mpr (h.lt hr hj), rfl⟩)
theorem mx_of {xs : List Nat} {m : Int} (h1 : m ∈ ci xs) (h2 : ∀ y, y ∈ ci xs → y ≤ m) : m = ((mx xs : Nat) : Int) := by
  obtain ⟨x, hx, rfl⟩ := List.mem_map.mp h1
  have a := mx_mem hx
  have b : mx xs ≤ x := mx_le fun y hy => by
    have := h2 (y : Int) (List.mem_map.mpr ⟨y, hy, rfl⟩)
    omega
  omega
/-- lists stay, the one at F aside -/
def LK (F : Addr) (G G' : Hp) : Prop := ∀ b xs, b ≠ F → G b = some (.lst xs) → G' b = some (.lst xs)
theorem LK.same {F : Addr} {G G' : Hp} (s : Same G G') : LK F G G' := fun b _ _ e => s b _ e
theorem LK.trans {F : Addr} {G G1 G2 : Hp} (a : LK F G G1) (b : LK F G1 G2) : LK F G G2 := fun c xs n e => b c xs n (a c xs n e)
theorem LK.dK {F D : Addr} {G : Hp} {kvs kvs' : List (L2.Key × V)} (h : G D = some (.dK kvs)) : LK F G (L2.upd G D (.dK kvs')) := fun b xs _ e => by
  rw [upd_ne (fun z => by rw [z, h] at e; cases e)]; exact e
theorem LK.upd {F : Addr} {G : Hp} {o : HO} : LK F G (L2.upd G F o) := fun b xs n e => by rw [upd_ne n]; exact e
theorem keep_dK {K : PySem.W.Frag} {D : Addr} {G : Hp} {kvs : List (L2.Key × V)} {o : HO} (h : G D = some (.dK kvs)) : Keep K G (L2.upd G D o) := fun a xs e => by
  rcases e with (e | ⟨u, e⟩) | e
  · exact .inl (.inl (by rw [upd_ne (fun z => by rw [z, h] at e; cases e)]; exact e))
  · exact .inl (.inr ⟨u, by rw [upd_ne (fun z => by rw [z, h] at e; cases e)]; exact e⟩)
  · exact .inr e
/-- runs as lists, none of them at F -/
inductive RunsL (G : Hp) (F : Addr) : List V → List (List Nat) → Prop
  | nil : RunsL G F [] []
  | cons {r : Addr} {x : List Nat} {vs : List V} {l : List (List Nat)} : G r = some (.lst (vi x)) → r ≠ F → RunsL G F vs l → RunsL G F (.ref r :: vs) (x :: l)
theorem RunsL.len {G : Hp} {F : Addr} : ∀ {vs : List V} {l : List (List Nat)}, RunsL G F vs l → vs.length = l.length
  | _, _, .nil => rfl
  | _, _, .cons _ _ b => by simp [RunsL.len b]
theorem RunsL.mono {G G' : Hp} {F : Addr} (s : LK F G G') : ∀ {vs : List V} {l : List (List Nat)}, RunsL G F vs l → RunsL G' F vs l
  | _, _, .nil => .nil
  | _, _, .cons a n b => .cons (s _ _ n a) n (RunsL.mono s b)
theorem RunsL.take {G : Hp} {F : Addr} : ∀ {vs : List V} {l : List (List Nat)} (n : Nat), RunsL G F vs l → RunsL G F (vs.take n) (l.take n)
  | _, _, 0, _ => .nil
  | _, _, _ + 1, .nil => .nil
  | _, _, n + 1, .cons a m b => .cons a m (RunsL.take n b)
theorem RunsL.drop {G : Hp} {F : Addr} : ∀ {vs : List V} {l : List (List Nat)} (n : Nat), RunsL G F vs l → RunsL G F (vs.drop n) (l.drop n)
  | _, _, 0, h => h
  | _, _, _ + 1, .nil => .nil
  | _, _, n + 1, .cons a m b => RunsL.drop n b
theorem RunsL.add {G : Hp} {F r : Addr} {x : List Nat} (h : G r = some (.lst (vi x))) (n : r ≠ F) : ∀ {vs : List V} {l : List (List Nat)}, RunsL G F vs l → RunsL G F (vs ++ [.ref r]) (l ++ [x])
  | _, _, .nil => .cons h n .nil
  | _, _, .cons a m b => .cons a m (RunsL.add h n b)
theorem RunsL.get {G : Hp} {F : Addr} : ∀ {vs : List V} {l : List (List Nat)}, RunsL G F vs l → ∀ {t : Nat} {v : V}, vs[t]? = some v → ∃ r x, v = .ref r ∧ l[t]? = some x ∧ G r = some (.lst (vi x)) ∧ r ≠ F
  | _, _, .nil, t, v, h => by simp at h
  | _, _, .cons (r := r) (x := x) a n b, 0, v, h => by
    simp at h; subst h
    exact ⟨r, x, rfl, rfl, a, n⟩
  | _, _, .cons a n b, t + 1, v, h => by
    obtain ⟨r, x, h1, h2, h3⟩ := RunsL.get b (t := t) (v := v) (by simpa using h)
    exact ⟨r, x, h1, by simpa using h2, h3⟩
/-- what a profile says of the first n flushes -/
def dPf (st : Nat → List Nat) (n : Nat) : List PyData := (List.range n).map fun i => PyData.tuple [.int ((mx (st (i + 1)) : Nat) : Int), .int (((st (i + 1)).length : Nat) : Int)]
theorem dPf_len (st : Nat → List Nat) (n : Nat) : (dPf st n).length = n := by simp [dPf]
theorem dPf_succ (st : Nat → List Nat) (n : Nat) : dPf st (n + 1) = dPf st n ++ [PyData.tuple [.int ((mx (st (n + 1)) : Nat) : Int), .int (((st (n + 1)).length : Nat) : Int)]] := by
  unfold dPf
  rw [List.range_succ, List.map_append]; rfl
theorem dPf_at {st : Nat → List Nat} {n i : Nat} (h : i < n) : (dPf st n)[i]? = some (PyData.tuple [.int ((mx (st (i + 1)) : Nat) : Int), .int (((st (i + 1)).length : Nat) : Int)]) := by
  unfold dPf
  rw [List.getElem?_map, List.getElem?_range h]; rfl
theorem dPf_tf (st : Nat → List Nat) (n : Nat) : ∀ d, d ∈ dPf st n → Tf d := fun d h => by
  obtain ⟨i, _, rfl⟩ := List.mem_map.mp h
  refine .tup fun d hd => ?_
  simp only [List.mem_cons, List.not_mem_nil, or_false] at hd
  rcases hd with rfl | rfl <;> exact .int _
/-- the states behind a schedule's flushes -/
def StS (p : List Nat) (st : Nat → List Nat) : Prop := st 0 = [] ∧ ∀ i m, p[i]? = some m → m ≤ (st i).length ∧ st (i + 1) = sa (st i) m
theorem StS.len {p : List Nat} {st : Nat → List Nat} (h : StS p st) : ∀ i, i ≤ p.length → (st i).length ≤ i := fun i => by
  induction i with
  | zero => intro _; rw [h.1]; simp
  | succ i ih =>
    intro hi
    obtain ⟨a1, a2⟩ := h.2 i _ (List.getElem?_eq_getElem (show i < p.length by omega))
    have := ih (by omega)
    rw [a2, sa_len a1]; omega
section
variable {P : Program} {w : World} {K : PySem.W.Frag} {mg : Str → Option Value} {base : Heap}
def sp_L_s5_profile (K : PySem.W.Frag) : Sp := fun vs H Q _ => ∃ (a : Addr) (p : List Nat) (st : Nat → List Nat), vs = [.ref a] ∧ SqT K H a (vi p) ∧ p.length ≤ 100 ∧ StS p st ∧ ∀ H' F cs, Same H H' → H F = none → H' F = some (.lst cs) → DpAll K H' cs (dPf st p.length) → Q (.ref F) H'
theorem ok_L_s5_profile (TX : Tx K mg) : FnOk P w K mg base CX0 1 TX.a_L_s5_profile TX.fd_L_s5_profile ["_law_plan"] (sp_L_s5_profile K) := by
  refine TX.f_L_s5_profile.ok sc_L_s5_profile (fun vs H Q E h => ?_) (fun cdv A outer s H vs Q E hr h => ?_)
  · obtain ⟨a, p, st, rfl, _⟩ := h; rfl
  · obtain ⟨a, p, st, rfl, hS, hz, hst, q⟩ := h
    refine ⟨_, (pss_cons (ps_asg (pe_tup (pa_cons (pe_lst pa_nil) (pa_cons pe_dnewK (pa_cons (pe_lst pa_nil) pa_nil)))) (pg_tup rfl (pgs_cons (pg_name (i := 1) sc_L_s5_profile.nd rfl (.inl rfl)) (pgs_cons (pg_name (i := 2) sc_L_s5_profile.nd rfl (.inr rfl)) (pgs_cons (pg_name (i := 3) sc_L_s5_profile.nd rfl (.inl rfl)) pgs_nil)))))
      (pss_cons (ps_for PassesOwn.never rfl (pi_enumT (by rfl) TX.b_enumerate (pa_cons (pv 0) pa_nil)) (pg_tup rfl (pgs_cons (pg_name (i := 4) sc_L_s5_profile.nd rfl (.inl rfl)) (pgs_cons (pg_name (i := 5) sc_L_s5_profile.nd rfl (.inl rfl)) pgs_nil)))
        (pss_cons (ps_par (i := 6) (j := 7) (by rfl) sc_L_s5_profile.nd rfl rfl (by decide) rfl rfl (pa_cons (pe_slice sl_list (pv 1) po_none (po_some (pe_op op_sub (pe_callB (id := "len") (k_len (K := K) rfl) (by rfl) TX.b_len (by decide +kernel) (pa_cons (pv 1) pa_nil)) (pv 5)))) (pa_cons (pe_lst (pa_cons (pv 4) pa_nil)) pa_nil)) (by rfl))
        (pss_cons (ps_for PassesOwn.never rfl (k_piL (K := K) rfl (pe_slice sl_list (pv 1) (po_some (pe_op op_sub (pe_callB (id := "len") (k_len (K := K) rfl) (by rfl) TX.b_len (by decide +kernel) (pa_cons (pv 1) pa_nil)) (pv 5))) po_none)) (pg_name (i := 8) sc_L_s5_profile.nd rfl (.inl rfl))
          (pss_one (ps_set (i := 7) sc_L_s5_profile.nd rfl (.inl rfl) (pe_op op_cat (pv 8) (pv 7)))))
        (pss_cons (ps_for PassesOwn.never rfl (k_piL (K := K) rfl (pv 7)) (pg_name (i := 9) sc_L_s5_profile.nd rfl (.inl rfl))
          (pss_one (ps_dput (hu_of hr) (pv 2) (pv 9) (pe_op op_add (pe_dget2 (hu_of hr) (pv 2) (pv 9) pe_int ⟨by rfl, by rfl, by rfl, by rfl⟩) pe_int) (by rfl))))
        (pss_cons (ps_set (i := 1) sc_L_s5_profile.nd rfl (.inl rfl) (pe_op op_cat (pv 6) (pe_lst (pa_cons (pv 7) pa_nil))))
        (pss_one (ps_expr (pe_bm PySem.F.plainAttrs_list PySem.F.slot_list_append PySem.F.type_list_append mt_append (pv 3) (pa_cons (pe_tup (pa_cons (pe_callB (id := "max") (cr_max rfl) (by rfl) TX.b_max (by decide +kernel) (pa_cons (pe_lock (pe_lc (own := [("_law_member", 9)]) (by rfl) sc_L_s5_profile.nd (pi_keys (pv 2)) (blkOk_by (own := [("_law_member", 9)]) (N := N_L_s5_profile) (sc := defScope s_L_s5_profile) (by decide +kernel)) (fun _ _ _ _ _ => (pg_name (i := 9) sc_L_s5_profile.nd rfl (Or.inl rfl))) (fun _ _ _ _ _ => pts_nil) (fun _ _ _ _ _ => (pe_dget (hu_of hr) (pv 2) (pv 9) (fun _ _ => rfl))))) pa_nil)) (pa_cons (pe_callB (id := "len") (k_len (K := K) rfl) (by rfl) TX.b_len (by decide +kernel) (pa_cons (pv 1) pa_nil)) pa_nil))) pa_nil)))))))))
      (pss_one (ps_ret (pv 3))))), ?_⟩
    refine ⟨sz60 (by simp), fun p0 n0 => fun D nD => ⟨sz60 (by simp), fun F nF => ⟨sz60 (by simp), fun T nT => ⟨T, _, rfl, .inl (.inl upd_same), rfl, _, _, rfl, _, _, rfl, _, _, rfl, rfl, ?_⟩⟩⟩⟩
    have s0 := same_upd (o := .lst []) n0
    have s1 := same_upd (o := .dK []) nD
    have s2 := same_upd (o := .lst []) nF
    have s3 := same_upd (o := .tup [V.ref p0, V.ref D, V.ref F]) nT
    have nDH : H D = none := s0.free nD
    have nFH : H F = none := (s0.trans s1).free nF
    have hp0 : (upd (upd (upd (upd H p0 (.lst [])) D (.dK [])) F (.lst [])) T (.tup [V.ref p0, V.ref D, V.ref F])) p0 = some (.lst []) := s3 _ _ (s2 _ _ (s1 _ _ upd_same))
    have hD0 : (upd (upd (upd (upd H p0 (.lst [])) D (.dK [])) F (.lst [])) T (.tup [V.ref p0, V.ref D, V.ref F])) D = some (.dK []) := s3 _ _ (s2 _ _ upd_same)
    have hF0 : (upd (upd (upd (upd H p0 (.lst [])) D (.dK [])) F (.lst [])) T (.tup [V.ref p0, V.ref D, V.ref F])) F = some (.lst []) := s3 _ _ upd_same
    have hpF : p0 ≠ F := fun e => by have h := s1 _ _ (upd_same (H := H) (a := p0) (o := .lst [])); rw [← e] at nF; rw [nF] at h; cases h
    have s03 := s0.trans (s1.trans (s2.trans s3))
    generalize upd (upd (upd (upd H p0 (.lst [])) D (.dK [])) F (.lst [])) T (.tup [V.ref p0, V.ref D, V.ref F]) = H0 at *
    clear s0 s1 s2 s3 nD nF nT n0
    refine ⟨.ref a, rfl, a, _, rfl, Same.tup s03 hS, for_it walk_enumT (fun i σ H' => ∃ (y4 y5 y6 y7 y8 y9 : Option V) (b : Addr) (vs cs : List V) (R : List (List Nat)) (f : Nat → Nat), σ = [some (.ref a), some (.ref b), some (.ref D), some (.ref F), y4, y5, y6, y7, y8, y9] ∧ Same H H' ∧ b ≠ F ∧ H' b = some (.lst vs) ∧ RunsL H' F vs R ∧ H' D = some (.dK (kl i f)) ∧ H' F = some (.lst cs) ∧ DpAll K H' cs (dPf st i) ∧ Prof i R f (st i))
      ⟨_, _, _, _, _, _, p0, [], [], [], fun _ => 0, rfl, s03, hpF, hp0, .nil, hD0, hF0, .nil, by rw [hst.1]; exact Prof.zero⟩ (fun i σ H' _ h => by obtain ⟨_, _, _, _, _, _, _, _, _, _, _, _, h, _⟩ := h; exact Same.tup h hS) ?_ ?_⟩
    rotate_left
    · rintro σ H' ⟨y4, y5, y6, y7, y8, y9, b, vs, cs, R, f, rfl, sm, hbF, hb, hR, hD, hF, hC, hP⟩
      rw [vi_len] at hC
      exact ⟨.ref F, rfl, q H' F cs sm nFH hF hC⟩
    rintro i x σ H1 H2 hi ⟨y4, y5, y6, y7, y8, y9, b, vs, cs, R, f, rfl, sm, hbF, hb, hR, hD, hF, hC, hP⟩ hy
    obtain ⟨Tp, x1, x2, rfl, nT, rfl, e1, e2⟩ := hy
    cases e1
    rw [vi_len] at hi
    obtain ⟨m, hm⟩ : ∃ m, p[i]? = some m := ⟨_, List.getElem?_eq_getElem hi⟩
    replace e2 : (vi p)[i]? = some x2 := e2
    rw [vi_get hm] at e2
    cases e2
    obtain ⟨hms, hsn⟩ := hst.2 i m hm
    have hRl := hP.rl
    have hvl := hR.len
    have hRi : R.length ≤ i := by have := len_le hP.ne; rw [hP.len] at this; exact this
    have hstep := hP.step (m := m) (by omega)
    rw [← hsn] at hstep
    have sT := same_upd (o := .tup [.int (i : Nat), .int (m : Int)]) nT
    refine ⟨Tp, _, rfl, .inl (.inl upd_same), rfl, _, _, rfl, _, [], rfl, rfl, ?_⟩
    have eK : ((vs.length : Nat) : Int) - (m : Int) = ((R.length - m : Nat) : Int) := by omega
    have hb2 := sT _ _ hb
    refine ⟨.ref b, rfl, .ref b, rfl, b, _, rfl, .inl (.inl (.inl hb2)), _, rfl, _, _, rfl, rfl, _, rfl, ?_⟩
    unfold tNoPart
    refine ⟨b, vs, rfl, .inl (.inl hb2), fun c0 nc0 => ?_⟩
    rw [eK, cut_to (by omega)]
    have s4 := same_upd (o := .lst (vs.take (R.length - m))) nc0
    refine ⟨_, rfl, sz60 (by simp), fun l0 nl0 => ?_⟩
    have s5 := same_upd (o := .lst [V.int (i : Nat)]) nl0
    have hl0 := upd_same (H := upd (upd H1 Tp (.tup [.int (i : Nat), .int (m : Int)])) c0 (.lst (vs.take (R.length - m)))) (a := l0) (o := .lst [V.int (i : Nat)])
    have hc0 := s5 _ _ (upd_same (H := upd H1 Tp (.tup [.int (i : Nat), .int (m : Int)])) (a := c0) (o := .lst (vs.take (R.length - m))))
    have s15 := sT.trans (s4.trans s5)
    have nl1 : H1 l0 = none := (sT.trans s4).free nl0
    have nc1 : H1 c0 = none := sT.free nc0
    generalize upd (upd (upd H1 Tp (.tup [.int (i : Nat), .int (m : Int)])) c0 (.lst (vs.take (R.length - m)))) l0 (.lst [V.int (i : Nat)]) = H5 at *
    clear s4 s5 nl0 nc0 hb2
    have hb5 := s15 _ _ hb
    have hF5 := s15 _ _ hF
    have hD5 := s15 _ _ hD
    have hR5 := RunsL.mono (.same s15) hR
    have hC5 := DpAll.same s15 hC
    have sm5 := sm.trans s15
    have hlF : l0 ≠ F := fun e => by rw [e, hF] at nl1; cases nl1
    have hcF : c0 ≠ F := fun e => by rw [e, hF] at nc1; cases nc1
    refine ⟨_, _, rfl, ?_⟩
    refine ⟨.ref b, rfl, .ref b, rfl, b, _, rfl, .inl (.inl (.inl hb5)), _, rfl, _, _, rfl, rfl, _, rfl, ?_⟩
    refine ⟨b, vs, rfl, .inl (.inl hb5), fun c1 nc1' => ?_⟩
    rw [eK, cut_from (by omega)]
    have s6 := same_upd (o := .lst (vs.drop (R.length - m))) nc1'
    have hc1 := upd_same (H := H5) (a := c1) (o := .lst (vs.drop (R.length - m)))
    generalize upd H5 c1 (.lst (vs.drop (R.length - m))) = H6 at *
    have hB6 := RunsL.mono (.same s6) (hR5.drop (R.length - m))
    have hBl : (R.drop (R.length - m)).length = m := by rw [List.length_drop]; omega
    have hfl : ∀ t, (mrg ((R.drop (R.length - m)).take t) i).length ≤ 200 := fun t => by
      have h1 : (mrg ((R.drop (R.length - m)).take t) i).length ≤ (mrg (R.drop (R.length - m)) i).length := by
        unfold mrg
        rw [List.length_append, List.length_append, len_rev, len_rev]
        have : ((R.drop (R.length - m)).take t).flatten.length ≤ (R.drop (R.length - m)).flatten.length := by
          conv => rhs; rw [← List.take_append_drop t (R.drop (R.length - m)), List.flatten_append, List.length_append]
          omega
        omega
      have h2 : (mrg (R.drop (R.length - m)) i).length ≤ i + 1 := by
        have := hstep.len
        rw [List.flatten_append, List.length_append] at this
        simp only [List.flatten_cons, List.flatten_nil, List.append_nil] at this
        omega
      omega
    refine ⟨c1, rfl, ⟨_, .inl (.inl hc1)⟩, for_list (K := K) (xs := vs.drop (R.length - m)) (fun t σ G => ∃ (y8 : Option V) (M : Addr), σ = [some (.ref a), some (.ref b), some (.ref D), some (.ref F), some (.int (i : Int)), some (.int (m : Int)), some (.ref c0), some (.ref M), y8, y9] ∧ Same H6 G ∧ M ≠ F ∧ G M = some (.lst (vi (mrg ((R.drop (R.length - m)).take t) i)))) ⟨_, l0, rfl, .refl _, hlF, s6 _ _ hl0⟩ (fun t σ G _ h => by obtain ⟨_, _, _, h, _⟩ := h; exact .inl (.inl (h _ _ hc1))) ?_ ?_⟩
    · rintro t x σ G hx ⟨y8, M, rfl, sG, hMF, hM⟩
      obtain ⟨r, z, rfl, hz1, hr1, hrF⟩ := hB6.get hx
      refine ⟨.ref r, rfl, .ref M, rfl, r, M, _, _, rfl, rfl, sG _ _ hr1, hM, sz60 ?_, fun M' nM' => ?_⟩
      · have h1 := len_in (List.mem_of_getElem? hz1)
        have h2 : (R.drop (R.length - m)).flatten.length ≤ R.flatten.length := by
          conv => rhs; rw [← List.take_append_drop (R.length - m) R, List.flatten_append, List.length_append]
          omega
        have h3 := hP.len
        have h4 := hfl t
        rw [vi_len, vi_len]; omega
      · refine ⟨_, M', rfl, sG.trans (same_upd nM'), fun e => ?_, ?_⟩
        · have := sG _ _ (s6 _ _ hF5)
          rw [e, this] at nM'; cases nM'
        · rw [mrg_succ i hz1, vi_app]; exact upd_same
    rintro σ G ⟨y8, M, rfl, sG, hMF, hM⟩
    rw [List.take_of_length_le (show (R.drop (R.length - m)).length ≤ (vs.drop (R.length - m)).length by rw [List.length_drop, List.length_drop]; omega)] at hM
    have s5G := s6.trans sG
    have hbG := s5G _ _ hb5
    have hFG := s5G _ _ hF5
    have hDG := s5G _ _ hD5
    have hcG := s5G _ _ hc0
    have hRG := RunsL.mono (.same s5G) hR5
    have hCG := DpAll.same s5G hC5
    have smG := sm5.trans s5G
    obtain ⟨B, hB⟩ : ∃ B, B = R.drop (R.length - m) := ⟨_, rfl⟩
    have hfB := hfl B.length
    rw [← hB] at hM hstep hfB
    rw [List.take_length] at hfB
    have hnew : f i = 0 := hP.new i (Nat.le_refl _)
    have hcB : B.flatten.count i = 0 := by
      have h1 := hP.cnt i
      rw [if_neg (by omega), ← List.take_append_drop (R.length - m) R, List.flatten_append, List.count_append, ← hB] at h1
      omega
    have hold : ∀ j, j ∈ B.reverse.flatten → j < i := fun j hj => by
      obtain ⟨r, hr1, hr2⟩ := List.mem_flatten.mp (mem_rev.mp hj)
      exact hP.lt (r := r) (List.mem_of_mem_drop (by rw [← hB]; exact hr1)) hr2
    obtain ⟨L, hL⟩ : ∃ L, L = B.reverse.flatten.length := ⟨_, rfl⟩
    have hml : (mrg B i).length = L + 1 := by unfold mrg; rw [List.length_append, ← hL]; rfl
    clear s5G hb5 hF5 hD5 hc0 hR5 hC5 sm5 hB6 hBl hfl sG s6 hc1 s15 hl0
    -- the counts of the members
    refine ⟨.ref M, rfl, M, rfl, ⟨_, .inl (.inl hM)⟩, for_list (K := K) (xs := vi (mrg B i)) (fun t σ G' => ∃ (y9 : Option V), σ = [some (.ref a), some (.ref b), some (.ref D), some (.ref F), some (.int (i : Int)), some (.int (m : Int)), some (.ref c0), some (.ref M), y8, y9] ∧ (∀ u o, u ≠ D → G u = some o → G' u = some o) ∧ G' D = some (.dK (kl (if t ≤ L then i else i + 1) (bumps f ((mrg B i).take t))))) ⟨_, rfl, fun u o _ e => e, by rw [if_pos (by omega), List.take_zero, bumps_nil]; exact hDG⟩ (fun t σ G' _ h => by obtain ⟨_, _, h, _⟩ := h; exact .inl (.inl (h _ _ (fun e => by rw [e, hDG] at hM; cases hM) hM))) ?_ ?_⟩
    · rintro t x σ G' hx ⟨y9, rfl, sG', hD'⟩
      have htl : t < (mrg B i).length := by have := (List.getElem?_eq_some_iff.mp hx).1; rwa [vi_len] at this
      have hte := List.getElem?_eq_getElem htl
      rw [vi_get hte] at hx
      cases hx
      obtain ⟨j, hj⟩ : ∃ j, j = (mrg B i)[t] := ⟨_, rfl⟩
      have htk : (mrg B i).take (t + 1) = (mrg B i).take t ++ [j] := by rw [List.take_add_one, hte, hj]; rfl
      rw [if_pos (show t ≤ L by omega)] at hD'
      rw [← hj]
      by_cases htL : t < L
      · have hji : j < i := by
          refine hold j ?_
          rw [hj]
          have e : (mrg B i)[t] = B.reverse.flatten[t] := List.getElem_append_left (by omega)
          rw [e]; exact List.getElem_mem _
        refine ⟨.ref D, rfl, D, rfl, .inl ⟨_, .inl hD'⟩, _, rfl, some (.int (bumps f ((mrg B i).take t) j : Nat)), .inl ⟨_, .inl (j : Int), .inl hD', rfl, by rw [kl_val, if_pos hji]⟩, _, _, rfl, rfl, .ref D, rfl, _, rfl, D, _, rfl, .inl ⟨_, .inl (j : Int), hD', rfl, by rw [kl_len]; exact sz61 (by omega), rfl⟩, ?_⟩
        refine ⟨_, rfl, fun u o hu e => by rw [upd_ne hu]; exact sG' u o hu e, ?_⟩
        rw [upd_same, if_pos (by omega), htk, bumps_snoc]
        show some (HO.dK (putK (kl i (bumps f ((mrg B i).take t))) (.inl (j : Int) : L2.Key) (V.int ((bumps f ((mrg B i).take t) j + 1 : Nat) : Int)))) = _
        rw [kl_put_old hji]
      · have eL : t = L := by omega
        have hji : j = i := by
          have e : (mrg B i)[t]? = some i := by
            unfold mrg
            rw [List.getElem?_append_right (by omega), eL, hL, Nat.sub_self]; rfl
          rw [hte] at e
          rw [hj]; exact Option.some.inj e
        rw [hji] at htk ⊢
        have h0 : bumps f ((mrg B i).take t) i = 0 := by
          have e : (mrg B i).take t = B.reverse.flatten := by unfold mrg; rw [eL, hL, List.take_left']; rfl
          rw [e]
          unfold bumps
          rw [hnew, count_rev, hcB]
        refine ⟨.ref D, rfl, D, rfl, .inl ⟨_, .inl hD'⟩, _, rfl, none, .inl ⟨_, .inl (i : Int), .inl hD', rfl, by rw [kl_val, if_neg (by omega)]⟩, _, _, rfl, rfl, .ref D, rfl, _, rfl, D, _, rfl, .inl ⟨_, .inl (i : Int), hD', rfl, by rw [kl_len]; exact sz61 (by omega), rfl⟩, ?_⟩
        refine ⟨_, rfl, fun u o hu e => by rw [upd_ne hu]; exact sG' u o hu e, ?_⟩
        rw [upd_same, if_neg (by omega), htk, bumps_snoc, h0]
        show some (HO.dK (putK (kl i (bumps f ((mrg B i).take t))) (.inl (i : Int) : L2.Key) (V.int ((0 + 1 : Nat) : Int)))) = _
        rw [kl_put_new]
    rintro σ G' ⟨y9', rfl, sG', hD'⟩
    rw [vi_len, if_neg (by omega), List.take_length] at hD'
    have hbG' := sG' _ _ (fun e => by rw [e, hDG] at hbG; cases hbG) hbG
    have hFG' := sG' _ _ (fun e => by rw [e, hDG] at hFG; cases hFG) hFG
    have hcG' := sG' _ _ (fun e => by rw [e, hDG] at hcG; cases hcG) hcG
    have hM' := sG' _ _ (fun e => by rw [e, hDG] at hM; cases hM) hM
    have kG : Keep K G G' := fun x xs e => by
      rcases e with (e | ⟨u, e⟩) | e
      · exact .inl (.inl (sG' _ _ (fun z => by rw [z, hDG] at e; cases e) e))
      · exact .inl (.inr ⟨u, sG' _ _ (fun z => by rw [z, hDG] at e; cases e) e⟩)
      · exact .inr e
    have lG : LK F G G' := fun x xs _ e => sG' _ _ (fun z => by rw [z, hDG] at e; cases e) e
    have hRG' := RunsL.mono lG hRG
    have hCG' := DpAll.keep kG (dPf_tf st i) hCG
    have smG' : Same H G' := fun u o e => sG' _ _ (fun z => by rw [z, nDH] at e; cases e) (smG _ _ e)
    obtain ⟨f', hf'⟩ : ∃ f', f' = bumps f (mrg B i) := ⟨_, rfl⟩
    rw [← hf'] at hstep hD'
    clear kG lG hRG hCG smG hbG hFG hcG hM hDG hR hC hb hF hD sG'
    -- stack = kept + [members]
    refine ⟨.ref c0, rfl, .ref M, rfl, sz60 (by simp), fun l2 nl2 => ⟨c0, l2, _, _, rfl, rfl, same_upd nl2 _ _ hcG', upd_same, sz60 (by simp; omega), fun b' nb' => ?_⟩⟩
    have t1 := same_upd (o := .lst [V.ref M]) nl2
    have t2 := same_upd (o := .lst (vs.take (R.length - m) ++ [V.ref M])) nb'
    have hb3 := upd_same (H := upd G' l2 (.lst [V.ref M])) (a := b') (o := .lst (vs.take (R.length - m) ++ [V.ref M]))
    have tt := t1.trans t2
    have nb3 : G' b' = none := t1.free nb'
    have hbF3 : b' ≠ F := fun e => by rw [e, hFG'] at nb3; cases nb3
    generalize upd (upd G' l2 (.lst [V.ref M])) b' (.lst (vs.take (R.length - m) ++ [V.ref M])) = G3 at *
    have hD3 := tt _ _ hD'
    have hF3 := tt _ _ hFG'
    have hR3 : RunsL G3 F (vs.take (R.length - m) ++ [V.ref M]) (R.take (R.length - m) ++ [mrg B i]) := RunsL.add (tt _ _ hM') hMF (RunsL.mono (.same tt) (hRG'.take _))
    have hC3 := DpAll.same tt hCG'
    have sm3 := smG'.trans tt
    clear t1 t2 tt nl2 nb' nb3
    have hlv : (vs.take (R.length - m) ++ [V.ref M]).length = (st (i + 1)).length := by
      have := hstep.rl
      rw [← hR3.len] at this
      exact this
    have hle : (st (i + 1)).length ≤ i + 1 := hst.len (i + 1) (by omega)
    refine ⟨.ref F, rfl, .inl ⟨rfl, _, .inl (.inl hF3)⟩, ?_⟩
    refine ⟨D, .dK (kl (i + 1) f'), hD3, trivial, fun od => ⟨.ref D, rfl, D, od, rfl, .inl ⟨kl (i + 1) f', upd_same, fun DD nDD => ?_⟩⟩⟩
    have hDDD : DD ≠ D := fun e => by rw [e, upd_same] at nDD; cases nDD
    refine lc_ints (K := K) (walk_keys (d := D) (o := od) (kvs := kl (i + 1) f')) (ci ((List.range (i + 1)).map f')) (by rw [ci, List.length_map, List.length_map, List.length_range, kl_len]) (by rw [kl_len]; omega) nDD (fun G4 s4 => s4 _ _ upd_same) ?_ ?_ (fun x σ' H' Q Q' h => h _ _) (fun σ' H' Q Q' h => h _ _)
    · rintro j x G4 G5 hj s4 ⟨rfl, k, v, hkv, rfl⟩ z hz' Rq hRq
      rw [kl_len] at hj
      rw [kl_get f' hj] at hkv
      cases hkv
      rw [ci, List.getElem?_map, List.getElem?_map, List.getElem?_range hj] at hz'
      cases hz'
      exact ⟨rfl, rfl, .ref D, rfl, _, rfl, D, _, rfl, .inl ⟨kl (i + 1) f', .inl (j : Int), .inr ⟨od, s4 _ _ upd_same⟩, rfl, by rw [kl_val, if_pos hj]⟩, hRq _ (Same.refl _)⟩
    · intro G4 s4 hDD4
      refine ⟨s4 _ _ upd_same, ?_⟩
      have s34 : Same G3 (upd G4 D (.dK (kl (i + 1) f'))) := fun u o e => by
        by_cases h : u = D
        · rw [h] at e ⊢; rw [upd_same, ← hD3, e]
        · rw [upd_ne h]; exact s4 _ _ (by rw [upd_ne h]; exact e)
      have hDD5 : (upd G4 D (.dK (kl (i + 1) f'))) DD = some (.lst ((ci ((List.range (i + 1)).map f')).map V.int)) := by rw [upd_ne hDDD]; exact hDD4
      generalize upd G4 D (.dK (kl (i + 1) f')) = G5 at s34 hDD5 ⊢
      refine ⟨DD, _, rfl, .inl (.inl hDD5), by simp [ci], fun mm h1 h2 => ?_⟩
      rw [mx_of h1 h2, hstep.top]
      refine ⟨.ref b', rfl, b', _, rfl, .inl (.inl (.inl (s34 _ _ hb3))), sz60 (by simp), fun t nt => ?_⟩
      rw [hlv]
      have t1 := same_upd (o := .tup [V.int ((mx (st (i + 1)) : Nat) : Int), V.int (((st (i + 1)).length : Nat) : Int)]) nt
      have s35 := s34.trans t1
      have ht5 := upd_same (H := G5) (a := t) (o := .tup [V.int ((mx (st (i + 1)) : Nat) : Int), V.int (((st (i + 1)).length : Nat) : Int)])
      generalize upd G5 t (.tup [V.int ((mx (st (i + 1)) : Nat) : Int), V.int (((st (i + 1)).length : Nat) : Int)]) = G6 at s35 ht5 ⊢
      have hcl := DpAll.len hC3
      rw [dPf_len] at hcl
      have hF6 := s35 _ _ hF3
      have hDF : D ≠ F := fun e => by rw [e, hF3] at hD3; cases hD3
      refine ⟨F, _, _, rfl, rfl, hF6, sz61 (by omega), ?_⟩
      refine ⟨_, _, _, _, _, _, b', _, _, _, f', rfl, Same.mut (sm3.trans s35) nFH, hbF3, by rw [upd_ne hbF3]; exact s35 _ _ hb3, RunsL.mono .upd (RunsL.mono (.same s35) hR3), by rw [upd_ne hDF]; exact s35 _ _ hD3, upd_same, ?_, hstep⟩
      rw [dPf_succ]
      refine DpAll.keep (But.keep But.upd hF6) (fun d hd => ?_) (DpAll.append (DpAll.same s35 hC3) (.cons (.tup (.inl (.inl ht5)) (.cons (.int _) (.cons (.int _) .nil))) .nil))
      have := dPf_tf st (i + 1) d (by rw [dPf_succ]; exact hd)
      exact this
end
/-! ### schedules by their states -/
def stf (p : List Nat) (i : Nat) : List Nat := (p.take i).foldl sa []
theorem stf_zero (p : List Nat) : stf p 0 = [] := rfl
theorem stf_succ {p : List Nat} {i m : Nat} (h : p[i]? = some m) : stf p (i + 1) = sa (stf p i) m := by
  unfold stf
  rw [List.take_add_one, h, List.foldl_append]
  rfl
def Good (p : List Nat) : Prop := ∀ i m, p[i]? = some m → m ≤ (stf p i).length
theorem Good.sts {p : List Nat} (h : Good p) : StS p (stf p) := ⟨rfl, fun i m hm => ⟨h i m hm, stf_succ hm⟩⟩
theorem Good.nil : Good [] := fun i m h => by simp at h
theorem stf_app {p q : List Nat} {i : Nat} (h : i ≤ p.length) : stf (p ++ q) i = stf p i := by
  unfold stf
  rw [List.take_append_of_le_length h]
theorem stf_snoc (p : List Nat) (m : Nat) : stf (p ++ [m]) (p.length + 1) = sa (stf p p.length) m := by
  rw [stf_succ (m := m) (by simp), stf_app (Nat.le_refl _)]
theorem Good.snoc {p : List Nat} {m : Nat} (h : Good p) (hm : m ≤ (stf p p.length).length) : Good (p ++ [m]) := fun i x hx => by
  by_cases e : i < p.length
  · rw [List.getElem?_append_left e] at hx
    rw [stf_app (by omega)]
    exact h i x hx
  · by_cases e2 : i = p.length
    · subst e2
      have : x = m := by simpa using hx.symm
      rw [stf_app (Nat.le_refl _), this]; exact hm
    · rw [List.getElem?_eq_none (by rw [List.length_append, List.length_cons, List.length_nil]; omega)] at hx
      cases hx
theorem Good.first {p : List Nat} (h : Good p) (hl : 1 ≤ p.length) : p.take 1 = [0] := by
  cases p with
  | nil => simp at hl
  | cons x p =>
    have := h 0 x rfl
    rw [stf_zero] at this
    have e : x = 0 := by simpa using this
    rw [e]; rfl
theorem StS.take {p : List Nat} {st : Nat → List Nat} (h : StS p st) (n : Nat) : StS (p.take n) st := ⟨h.1, fun i m hm => h.2 i m (by
  rw [List.getElem?_take] at hm
  split at hm
  · exact hm
  · cases hm)⟩
theorem sa_posv {st : List Nat} {m : Nat} (h : ∀ x, x ∈ st → 1 ≤ x) : ∀ x, x ∈ sa st m → 1 ≤ x := fun x hx => by
  unfold sa at hx
  rcases List.mem_append.mp hx with hx | hx
  · exact h x (List.mem_of_mem_take hx)
  · have : x = 1 + mx (st.drop (st.length - m)) := by simpa using hx
    omega
theorem StS.pos {p : List Nat} {st : Nat → List Nat} (h : StS p st) : ∀ i, i ≤ p.length → ∀ x, x ∈ st i → 1 ≤ x := fun i => by
  induction i with
  | zero => intro _ x hx; rw [h.1] at hx; cases hx
  | succ i ih =>
    intro hi
    obtain ⟨a1, a2⟩ := h.2 i _ (List.getElem?_eq_getElem (show i < p.length by omega))
    rw [a2]
    exact sa_posv (ih (by omega))
theorem sta_mx {k c : Nat} {s : List Nat} (h : ∀ x, x ∈ s → 1 ≤ x) : Sta k c s ↔ s.length ≤ k ∧ mx s ≤ c :=
  ⟨fun z => ⟨z.1, z.mx_le⟩, fun z => ⟨z.1, fun x hx => ⟨h x hx, Nat.le_trans (mx_mem hx) z.2⟩⟩⟩
theorem remv_nn' {k c : Nat} {st : List Nat} (h : Sta k c st) : 0 ≤ remv k c st := by
  have h1 := remv_brd h
  have h2 := brd_le h
  omega
theorem remv_lt' {k c : Nat} {st : List Nat} {m : Nat} (h : Sta k c st) (hm : m ≤ st.length) (h2 : Sta k c (sa st m)) : remv k c (sa st m) < remv k c st := by
  have h1 := remv_brd h
  have h3 := remv_brd h2
  have h4 := brd_sa h.pos hm
  omega
theorem walk_none {k c : Nat} {s : List Nat} {m : Nat} (h : Sta k c s) (hm : m ≤ s.length) (h2 : Sta k c (sa s m)) (b : BmN k c s) : False := by
  have e1 := remv_brd h
  have e2 := b.zero h
  have e3 := remv_lt' h hm h2
  have e4 := remv_nn' h2
  omega
theorem walk_flag {k c : Nat} {s : List Nat} {m m' : Nat} {L : Int} (h : Sta k c s) (hm : m ≤ s.length) (h2 : Sta k c (sa s m)) (b : Bm k c s m') (hle : remv k c s ≤ L) :
    decide (remv k c (sa s m) = L - 1) = (decide (remv k c s = L) && decide ((m' : Int) = (m : Int))) ∧ remv k c (sa s m) ≤ L - 1 := by
  obtain ⟨g1, g2⟩ := b.good h
  have hm' := b.2.1
  have e0 := remv_brd h
  have e1 := remv_brd h2
  have e2 := remv_brd g1
  have lt := remv_lt' h hm h2
  refine ⟨?_, by omega⟩
  by_cases e : remv k c (sa s m) = L - 1
  · have : m = m' := good_uniq h hm hm' h2 g1 (by omega) g2
    rw [decide_eq_true e, decide_eq_true (by omega), decide_eq_true (by omega)]; rfl
  · rw [decide_eq_false e]
    by_cases f : remv k c s = L
    · have : ¬ (m' : Int) = (m : Int) := fun z => by
        have z' : m' = m := by omega
        subst z'
        omega
      rw [decide_eq_false this, Bool.and_false]
    · rw [decide_eq_false f, Bool.false_and]
/-! ### all schedules of a length, with the number of runs -/
def extS (x : List Nat × Nat) : List (List Nat × Nat) := (List.range (x.2 + 1)).map fun t => (x.1 ++ [t], x.2 + 1 - t)
def schL : Nat → List (List Nat × Nat)
  | 0 => [([], 0)]
  | n + 1 => (schL n).flatMap extS
theorem schL_len : ∀ n, n ≤ 7 → (schL n).length ≤ 429 := by decide +kernel
theorem schL_ok : ∀ n, ∀ x, x ∈ schL n → Good x.1 ∧ x.1.length = n ∧ x.2 = (stf x.1 n).length
  | 0, x, h => by
    have e : x = ([], 0) := by simpa [schL] using h
    subst e
    exact ⟨Good.nil, rfl, rfl⟩
  | n + 1, x, h => by
    obtain ⟨y, hy, hx⟩ := List.mem_flatMap.mp h
    obtain ⟨h1, h2, h3⟩ := schL_ok n y hy
    obtain ⟨t, ht, rfl⟩ := List.mem_map.mp hx
    have ht := List.mem_range.mp ht
    have hs : stf (y.1 ++ [t]) (n + 1) = sa (stf y.1 n) t := by rw [← h2]; exact stf_snoc y.1 t
    refine ⟨h1.snoc (by rw [h2]; omega), by rw [List.length_append, h2]; rfl, ?_⟩
    show y.2 + 1 - t = (stf (y.1 ++ [t]) (n + 1)).length
    rw [hs, sa_len (by omega)]; omega
/-- every schedule of the length is there -/
theorem schL_all : ∀ (n : Nat) (p : List Nat), Good p → p.length = n → (p, (stf p n).length) ∈ schL n
  | 0, p, _, hl => by
    have : p = [] := List.length_eq_zero_iff.mp hl
    subst this
    simp [schL, stf]
  | n + 1, p, hg, hl => by
    obtain ⟨q, t, rfl⟩ : ∃ q t, p = q ++ [t] := ⟨p.dropLast, p.getLast (by intro e; rw [e] at hl; cases hl), (List.dropLast_concat_getLast _).symm⟩
    have hq : q.length = n := by rw [List.length_append] at hl; simpa using hl
    have hgq : Good q := fun i m hm => by
      have hi := (List.getElem?_eq_some_iff.mp hm).1
      have := hg i m (by rw [List.getElem?_append_left hi]; exact hm)
      rwa [stf_app (by omega)] at this
    have ht := hg q.length t (by simp)
    rw [stf_app (Nat.le_refl _), hq] at ht
    refine List.mem_flatMap.mpr ⟨_, schL_all n q hgq hq, List.mem_map.mpr ⟨t, List.mem_range.mpr (by dsimp only; omega), ?_⟩⟩
    dsimp only
    congr 1
    have hs : stf (q ++ [t]) (n + 1) = sa (stf q n) t := by rw [← hq]; exact stf_snoc q t
    rw [hs, sa_len ht]; omega
def dPl (p : List Nat) : PyData := .tuple ((ci p).map PyData.int)
def dSc (x : List Nat × Nat) : PyData := .tuple [dPl x.1, .int (x.2 : Int)]
theorem tf_dPl (p : List Nat) : Tf (dPl p) := .tup (tf_ints _)
theorem tf_dSc (x : List Nat × Nat) : Tf (dSc x) := .tup fun d hd => by
  simp only [List.mem_cons, List.not_mem_nil, or_false] at hd
  rcases hd with rfl | rfl
  · exact tf_dPl _
  · exact .int _
theorem dSc_inv {K : PySem.W.Frag} {H : Hp} {v : V} {x : List Nat × Nat} (h : Dp K H v (dSc x)) : ∃ t b, v = .ref t ∧ SqT K H t [.ref b, .int (x.2 : Int)] ∧ SqT K H b (vi x.1) := by
  obtain ⟨t, xs, rfl, h1, h2⟩ := Dp.tupInv h
  cases h2 with
  | cons a b =>
    cases b with
    | cons c d =>
      cases d
      cases c
      obtain ⟨u, rfl, hu⟩ := Dp.intsInv a
      exact ⟨t, u, rfl, h1, by rw [vi_ci]; exact hu⟩
theorem fm_take {l : List (List Nat × Nat)} (i : Nat) : ((l.take i).flatMap extS).length ≤ (l.flatMap extS).length := by
  have e : l.flatMap extS = (l.take i).flatMap extS ++ (l.drop i).flatMap extS := by rw [← List.flatMap_append, List.take_append_drop]
  rw [e, List.length_append]; omega
section
variable {P : Program} {w : World} {K : PySem.W.Frag} {mg : Str → Option Value} {base : Heap}
def sp_L_s5_schedules (K : PySem.W.Frag) : Sp := fun vs H Q _ => ∃ n : Nat, vs = [.int (n : Int)] ∧ n ≤ 7 ∧ ∀ H' p us, Same H H' → H p = none → H' p = some (.lst us) → DpAll K H' us ((schL n).map fun x => dPl x.1) → Q (.ref p) H'
theorem ok_L_s5_schedules (TX : Tx K mg) : FnOk P w K mg base CX0 1 TX.a_L_s5_schedules TX.fd_L_s5_schedules ["_law_total"] (sp_L_s5_schedules K) := by
  refine TX.f_L_s5_schedules.ok sc_L_s5_schedules (fun vs H Q E h => ?_) (fun cdv A outer s H vs Q E hr h => ?_)
  · obtain ⟨n, rfl, _⟩ := h; rfl
  · obtain ⟨n, rfl, hn, q⟩ := h
    refine ⟨_, (pss_cons (ps_set (i := 1) sc_L_s5_schedules.nd rfl (.inl rfl) (pe_lst (pa_cons (pe_tup (pa_cons (pe_tup pa_nil) (pa_cons pe_int pa_nil))) pa_nil)))
      (pss_cons (ps_for PassesOwn.never rfl (pi_range1 (by rfl) TX.b_range (pa_cons (pv 0) pa_nil)) (pg_name (i := 2) sc_L_s5_schedules.nd rfl (.inl rfl))
        (pss_cons (ps_set (i := 3) sc_L_s5_schedules.nd rfl (.inl rfl) (pe_lst pa_nil))
        (pss_cons (ps_for PassesOwn.never rfl (k_piL (K := K) rfl (pv 1)) (pg_tup rfl (pgs_cons (pg_name (i := 4) sc_L_s5_schedules.nd rfl (.inr rfl)) (pgs_cons (pg_name (i := 5) sc_L_s5_schedules.nd rfl (.inr rfl)) pgs_nil)))
          (pss_one (ps_expr (pe_bm PySem.F.plainAttrs_list PySem.F.slot_list_extend PySem.F.type_list_extend mt_extend (pv 3) (pa_cons (pe_lc (own := [("_law_taken", 6)]) (by rfl) sc_L_s5_schedules.nd (pi_range1 (by rfl) TX.b_range (pa_cons (pe_op op_add (pv 5) pe_int) pa_nil)) (blkOk_by (own := [("_law_taken", 6)]) (N := N_L_s5_schedules) (sc := defScope s_L_s5_schedules) (by decide +kernel)) (fun _ _ _ _ _ => (pg_name (i := 6) sc_L_s5_schedules.nd rfl (Or.inl rfl))) (fun _ _ _ _ _ => pts_nil) (fun _ _ _ _ _ => (pe_tup (pa_cons (pe_op (k_catT (K := K) rfl) (pv 4) (pe_tup (pa_cons (pv 6) pa_nil))) (pa_cons (pe_op op_sub (pe_op op_add (pv 5) pe_int) (pv 6)) pa_nil))))) pa_nil)))))
        (pss_one (ps_set (i := 1) sc_L_s5_schedules.nd rfl (.inl rfl) (pv 3))))))
      (pss_one (ps_ret (pe_lc (own := [("_law_plan", 4), ("_law_runs", 5)]) (by rfl) sc_L_s5_schedules.nd (k_piL (K := K) rfl (pv 1)) (blkOk_by (own := [("_law_plan", 4), ("_law_runs", 5)]) (N := N_L_s5_schedules) (sc := defScope s_L_s5_schedules) (by decide +kernel)) (fun _ _ _ _ _ => (k_pgT2 (K := K) rfl rfl (pg_name (i := 4) sc_L_s5_schedules.nd rfl (Or.inl rfl)) (pg_name (i := 5) sc_L_s5_schedules.nd rfl (Or.inl rfl)))) (fun _ _ _ _ _ => pts_nil) (fun _ _ _ _ _ => (pv 4))))))), ?_⟩
    refine ⟨sz60 (by simp), fun e1 ne1 => ⟨sz60 (by simp), fun t1 nt1 => ⟨sz60 (by simp), fun f0 nf0 => ?_⟩⟩⟩
    have z1 := same_upd (o := .tup []) ne1
    have z2 := same_upd (o := .tup [V.ref e1, V.int 0]) nt1
    have z3 := same_upd (o := .lst [V.ref t1]) nf0
    have g1 := z3 _ _ (z2 _ _ (upd_same (H := H) (a := e1) (o := .tup [])))
    have g2 := z3 _ _ (upd_same (H := upd H e1 (.tup [])) (a := t1) (o := .tup [V.ref e1, V.int 0]))
    have g3 := upd_same (H := upd (upd H e1 (.tup [])) t1 (.tup [V.ref e1, V.int 0])) (a := f0) (o := .lst [V.ref t1])
    have s03 := z1.trans (z2.trans z3)
    have nf0H : H f0 = none := (z1.trans z2).free nf0
    generalize upd (upd (upd H e1 _) t1 _) f0 _ = H0 at *
    clear z1 z2 z3
    refine ⟨_, rfl, _, rfl, by omega, by omega, for_range (lo := 0) (n := ((n : Nat) : Int).toNat) (fun x σ H' => ∃ y2 y3 y4 y5 y6 fl fs, σ = [some (.int (n : Int)), some (.ref fl), y2, y3, y4, y5, y6] ∧ Same H H' ∧ H fl = none ∧ H' fl = some (.lst fs) ∧ DpAll K H' fs ((schL x).map dSc)) ⟨_, _, _, _, _, f0, [V.ref t1], rfl, s03, nf0H, g3, .cons (.tup (.inl (.inl g2)) (.cons (.tup (.inl (.inl g1)) .nil) (.cons (.int 0) .nil))) .nil⟩ ?_ ?_⟩
    · rintro x σ G1 hx ⟨y2, y3, y4, y5, y6, fl, fs, rfl, s1, nfl, hfl, hfA⟩
      have hxn : x < n := by omega
      refine ⟨sz60 (by simp), fun lo nlo => ?_⟩
      have zl := same_upd (o := .lst []) nlo
      have hrn := DpAll.len hfA
      rw [List.length_map] at hrn
      have hr1 := schL_len x (by omega)
      have hr2 := schL_len (x + 1) (by omega)
      refine ⟨_, rfl, fl, rfl, ⟨_, .inl (.inl (zl _ _ hfl))⟩, for_list (K := K) (xs := fs) (fun i σ H' => ∃ y4 y5 y6 acc, σ = [some (.int (n : Int)), some (.ref fl), some (.int ((0 : Int) + (x : Int))), some (.ref lo), y4, y5, y6] ∧ Same G1 H' ∧ H' lo = some (.lst acc) ∧ DpAll K H' acc ((((schL x).take i).flatMap extS).map dSc)) ⟨_, _, _, [], rfl, zl, upd_same, .nil⟩ (fun i σ H' _ h => by obtain ⟨_, _, _, _, _, h, _⟩ := h; exact .inl (.inl (h _ _ hfl))) ?_ ?_⟩
      · rintro i v σ G2 hv ⟨y4, y5, y6, acc, rfl, s2, hlo, hac⟩
        have hi : i < fs.length := (List.getElem?_eq_some_iff.mp hv).1
        have hi2 : i < (schL x).length := by omega
        obtain ⟨v', hv', hD⟩ := DpAll.get (DpAll.same s2 hfA) (i := i) (d := dSc (schL x)[i]) (by rw [List.getElem?_map, List.getElem?_eq_getElem hi2]; rfl)
        rw [hv] at hv'
        cases hv'
        obtain ⟨k1, k2, k3⟩ := schL_ok x _ (List.getElem_mem hi2)
        obtain ⟨tt, tb, rfl, ht, htb⟩ := dSc_inv hD
        have hal := DpAll.len hac
        rw [List.length_map] at hal
        have etk : (schL x).take (i + 1) = (schL x).take i ++ [(schL x)[i]] := List.take_succ_eq_append_getElem hi2
        have htk1 := fm_take (l := schL x) (i + 1)
        have eN : (schL x).flatMap extS = schL (x + 1) := rfl
        rw [eN, etk, List.flatMap_append, List.length_append] at htk1
        have hrl := k1.sts.len x (by omega)
        generalize (schL x)[i] = st at ht htb etk htk1 k1 k2 k3 hrl
        obtain ⟨pl, r⟩ := st
        dsimp only at ht htb k1 k2 k3 hrl
        refine ⟨tt, _, rfl, ht, rfl, _, _, rfl, _, _, rfl, rfl, ?_⟩
        refine ⟨_, rfl, .inl ⟨rfl, _, .inl (.inl hlo)⟩, _, rfl, _, _, rfl, rfl, _, rfl, by omega, by omega, fun D nD => ?_⟩
        have eR : ((r : Int) + 1).toNat = r + 1 := by omega
        refine lc_all (K := K) walk_range ((extS (pl, r)).map dSc) (by simp [extS] <;> omega) (fun d hd => by obtain ⟨m, _, rfl⟩ := List.mem_map.mp hd; exact tf_dSc _) (by omega) nD (fun _ _ => trivial) ?_ ?_ (fun x σ' H' Q Q' h => h _ _) (fun σ' H' Q Q' h => h _ _)
        · rintro j y Hy Hy' hj sy hy d hd R hR
          obtain ⟨rfl, rfl⟩ := hy
          have hj2 : j < r + 1 := by omega
          have ej : (0 : Int) + ((j : Nat) : Int) = (j : Int) := by omega
          dsimp only
          rw [ej]
          unfold extS at hd
          rw [List.getElem?_map, List.getElem?_map, List.getElem?_range hj2] at hd
          cases hd
          refine ⟨rfl, rfl, _, rfl, _, rfl, sz60 (by simp), fun o no => ?_⟩
          have zo := same_upd (o := .tup [V.int (j : Int)]) no
          refine cat_read (Same.tup (sy.trans zo) htb) (.inl (.inl upd_same)) (by simp [vi]; omega) fun p6 H6 s6 h6 => ?_
          refine ⟨_, rfl, _, _, rfl, rfl, _, rfl, _, _, rfl, rfl, sz60 (by simp), fun t7 n7 => ?_⟩
          have z7 := same_upd (o := .tup [V.ref p6, V.int ((r : Int) + 1 - (j : Int))]) n7
          refine hR _ _ (zo.trans (s6.trans z7)) ?_
          have e : vi pl ++ [V.int (j : Int)] = vi (pl ++ [j]) := by rw [vi_app]; rfl
          rw [e, vi_ci] at h6
          have e2 : (r : Int) + 1 - (j : Int) = ((r + 1 - j : Nat) : Int) := by omega
          refine .tup (.inl (.inl upd_same)) (.cons (dp_tup (Same.tup z7 h6)) (.cons ?_ .nil))
          show Dp K _ (.int ((r : Int) + 1 - (j : Int))) (.int ((r + 1 - j : Nat) : Int))
          rw [e2]; exact .int _
        intro G3 acc3 s3 ha3 hA3
        have hal3 := DpAll.len hA3
        rw [List.length_map] at hal3
        have hel : (extS (pl, r)).length = r + 1 := by simp [extS]
        refine ⟨lo, D, acc, acc3, rfl, rfl, s3 _ _ hlo, ha3, sz60 (by omega), ?_⟩
        have hlo3 := s3 _ _ hlo
        refine ⟨_, _, _, acc ++ acc3, rfl, Same.mut (s2.trans s3) nlo, upd_same, ?_⟩
        rw [etk, List.flatMap_append, List.map_append]
        refine DpAll.keep (But.keep But.upd hlo3) (fun d hd => ?_) (DpAll.append (DpAll.same s3 hac) (by simpa using hA3))
        rcases List.mem_append.mp hd with hd | hd
        · obtain ⟨j, _, rfl⟩ := List.mem_map.mp hd
          exact tf_dSc _
        · obtain ⟨j, _, rfl⟩ := List.mem_map.mp hd
          exact tf_dSc _
      rintro σ G2 ⟨y4, y5, y6, acc, rfl, s2, hlo, hac⟩
      rw [List.take_of_length_le (by omega)] at hac
      refine ⟨_, rfl, _, _, _, _, _, lo, acc, rfl, s1.trans s2, s1.free nlo, hlo, hac⟩
    · rintro σ G1 ⟨y2, y3, y4, y5, y6, fl, fs, rfl, s1, nfl, hfl, hfA⟩
      rw [Int.toNat_natCast] at hfA
      have hrn := DpAll.len hfA
      rw [List.length_map] at hrn
      have hr1 := schL_len n hn
      refine ⟨.ref fl, rfl, fl, rfl, ⟨_, .inl (.inl hfl)⟩, fun D nD => ?_⟩
      refine lc_all (K := K) (walk_list (xs := fs)) ((schL n).map fun x => dPl x.1) (by rw [List.length_map, hrn]) (fun d hd => by obtain ⟨m, _, rfl⟩ := List.mem_map.mp hd; exact tf_dPl _) (by omega) nD (fun G s => .inl (.inl (s _ _ hfl))) ?_ ?_ mono_pair (fun σ' H' Q Q' h => h _ _)
      · rintro i x G5 G6 hi s5 ⟨rfl, hx⟩ d hd R hR
        have hi2 : i < (schL n).length := by omega
        obtain ⟨v', hv', hD⟩ := DpAll.get (DpAll.same s5 hfA) (i := i) (d := dSc (schL n)[i]) (by rw [List.getElem?_map, List.getElem?_eq_getElem hi2]; rfl)
        rw [hx] at hv'
        cases hv'
        rw [List.getElem?_map, List.getElem?_eq_getElem hi2] at hd
        cases hd
        obtain ⟨tt, tb, rfl, ht, htb⟩ := dSc_inv hD
        refine ⟨tt, _, rfl, ht, rfl, _, _, rfl, _, _, rfl, rfl, rfl, rfl, _, rfl, hR _ _ (Same.refl _) (dp_tup (by rw [← vi_ci]; exact htb))⟩
      · intro G5 acc s5 hD5 hA5
        exact q _ D acc (s1.trans s5) (s1.free nD) hD5 hA5
end
/-! ### the policy's schedule, and the others within as many runs -/
theorem pst_zero (k : Nat) : pst k 0 = [] := rfl
def ppl (k n : Nat) : List Nat := (List.range n).map (pm k)
theorem ppl_get {k n i : Nat} (h : i < n) : (ppl k n)[i]? = some (pm k i) := by
  unfold ppl
  rw [List.getElem?_map, List.getElem?_range h]; rfl
theorem ppl_len (k n : Nat) : (ppl k n).length = n := by simp [ppl]
theorem stf_ppl (k n : Nat) : ∀ i, i ≤ n → stf (ppl k n) i = pst k i := fun i => by
  induction i with
  | zero => intro _; rfl
  | succ i ih =>
    intro hi
    rw [stf_succ (ppl_get (show i < n by omega)), ih (by omega)]; rfl
theorem ppl_good {k : Nat} (hk : 1 ≤ k) (n : Nat) : Good (ppl k n) := fun i m hm => by
  have hi : i < n := by have := (List.getElem?_eq_some_iff.mp hm).1; rwa [ppl_len] at this
  rw [ppl_get hi] at hm
  cases hm
  rw [stf_ppl k n i (by omega)]
  exact pm_le hk i
theorem pst_mx {k : Nat} (hk : 1 ≤ k) {n : Nat} (hn : n ≠ 0) : mx (pst k n) = lw k n := by
  obtain ⟨h1, h2, h3⟩ := pst_ok hk n
  cases e : pst k n with
  | nil => rw [e] at h3; exact (hn h3.symm).elim
  | cons x xs =>
    rw [e] at h1 h2 h3
    rw [h2.mx, ← h3]
    exact (lw_desc h1 h2).symm
theorem sa_mono {s : List Nat} {m : Nat} (hm : m ≤ s.length) : mx s ≤ mx (sa s m) := by
  have e : s = s.take (s.length - m) ++ s.drop (s.length - m) := (List.take_append_drop _ _).symm
  have h1 : mx s = max (mx (s.take (s.length - m))) (mx (s.drop (s.length - m))) := by
    conv => lhs; rw [e]
    exact mx_append _ _
  have h2 : mx (sa s m) = max (mx (s.take (s.length - m))) (mx [1 + mx (s.drop (s.length - m))]) := mx_append _ _
  rw [h1, h2]
  simp only [mx]
  omega
/-- never more than k runs -/
def Few (k : Nat) (p : List Nat) : Prop := ∀ i, i < p.length → (stf p (i + 1)).length ≤ k
theorem few_pos {k : Nat} {p : List Nat} (hg : Good p) (hf : Few k p) : ∀ i, i ≤ p.length → Pos k (stf p i) := fun i hi => by
  cases i with
  | zero => exact ⟨by rw [stf_zero]; simp, by rw [stf_zero]; simp⟩
  | succ i => exact ⟨hf i (by omega), hg.sts.pos (i + 1) hi⟩
theorem few_brd {k : Nat} {p : List Nat} (hg : Good p) (hf : Few k p) : ∀ i j, i ≤ j → j ≤ p.length → brd k (stf p i) + (j - i) ≤ brd k (stf p j) := fun i j hij => by
  induction j with
  | zero => intro _; have : i = 0 := by omega
            subst this; simp
  | succ j ih =>
    intro hj
    by_cases e : i = j + 1
    · rw [e]; omega
    · have h1 := ih (by omega) (by omega)
      obtain ⟨a1, a2⟩ := hg.sts.2 j _ (List.getElem?_eq_getElem (show j < p.length by omega))
      have h2 := brd_sa (few_pos hg hf j (by omega)) a1
      rw [← a2] at h2
      omega
theorem few_mono {p : List Nat} (hg : Good p) : ∀ i j, i ≤ j → j ≤ p.length → mx (stf p i) ≤ mx (stf p j) := fun i j hij => by
  induction j with
  | zero => intro _; have : i = 0 := by omega
            subst this; omega
  | succ j ih =>
    intro hj
    by_cases e : i = j + 1
    · rw [e]; omega
    · have h1 := ih (by omega) (by omega)
      obtain ⟨a1, a2⟩ := hg.sts.2 j _ (List.getElem?_eq_getElem (show j < p.length by omega))
      have h2 := sa_mono a1
      rw [← a2] at h2
      omega
theorem few_least {k : Nat} {p : List Nat} (hk : 1 ≤ k) (hg : Good p) (hf : Few k p) : lw k p.length ≤ mx (stf p p.length) := by
  have h1 := few_brd hg hf 0 p.length (Nat.zero_le _) (Nat.le_refl _)
  have h2 := brd_le (few_pos hg hf p.length (Nat.le_refl _)).sta
  by_cases e : lw k p.length ≤ mx (stf p p.length)
  · exact e
  · have h3 := (lw_ok p.length hk).2 (mx (stf p p.length)) (by omega)
    have e0 : brd k (stf p 0) = 0 := rfl
    omega
theorem few_uniq {k c : Nat} {p q : List Nat} (hl : p.length = q.length) (hn : p.length + 1 = bin (k + c) k) (hgp : Good p) (hgq : Good q) (hfp : Few k p) (hfq : Few k q) (hp : mx (stf p p.length) = c) (hq : mx (stf q q.length) = c) : p = q := by
  have brd_eq : ∀ {p : List Nat}, p.length + 1 = bin (k + c) k → Good p → Few k p → mx (stf p p.length) = c → ∀ i, i ≤ p.length → brd k (stf p i) = i := fun {p} hn hg hf hm i hi => by
    have h1 := few_brd hg hf 0 i (Nat.zero_le _) hi
    have h2 := few_brd hg hf i p.length hi (Nat.le_refl _)
    have h3 := brd_le (few_pos hg hf p.length (Nat.le_refl _)).sta
    rw [hm] at h3
    have e0 : brd k (stf p 0) = 0 := rfl
    omega
  have bp := brd_eq hn hgp hfp hp
  have bq := brd_eq (by omega) hgq hfq hq
  have sta : ∀ {p : List Nat}, Good p → Few k p → mx (stf p p.length) = c → ∀ i, i ≤ p.length → Sta k c (stf p i) := fun {p} hg hf hm i hi => (few_pos hg hf i hi).sta.mono (Nat.le_refl _) (by have := few_mono hg i p.length hi (Nat.le_refl _); omega)
  have key : ∀ i, i ≤ p.length → stf p i = stf q i ∧ p.take i = q.take i := fun i => by
    induction i with
    | zero => intro _; exact ⟨rfl, by simp⟩
    | succ i ih =>
      intro hi
      obtain ⟨e1, e2⟩ := ih (by omega)
      have gp := List.getElem?_eq_getElem (show i < p.length by omega)
      have gq := List.getElem?_eq_getElem (show i < q.length by omega)
      obtain ⟨a1, a2⟩ := hgp.sts.2 i _ gp
      obtain ⟨b1, b2⟩ := hgq.sts.2 i _ gq
      have s0 := sta hgp hfp hp i (by omega)
      have s1 := sta hgp hfp hp (i + 1) hi
      have s2 := sta hgq hfq hq (i + 1) (by omega)
      have t1 := bp (i + 1) hi
      have t2 := bq (i + 1) (by omega)
      have t0 := bp i (by omega)
      rw [a2] at s1 t1
      rw [b2, ← e1] at s2 t2
      rw [← e1] at b1
      have : p[i] = q[i] := good_uniq s0 a1 b1 s1 s2 (by omega) (by omega)
      refine ⟨by rw [a2, b2, e1, this], ?_⟩
      rw [List.take_add_one, List.take_add_one, gp, gq, e2, this]
  have := (key p.length (Nat.le_refl _)).2
  rw [List.take_length, hl, List.take_length] at this
  exact this
theorem schL_nd : ∀ n, ((schL n).map Prod.fst).Nodup
  | 0 => by simp [schL]
  | n + 1 => by
    have ih := schL_nd n
    have e : (schL (n + 1)).map Prod.fst = ((schL n).flatMap extS).map Prod.fst := rfl
    rw [e, List.map_flatMap]
    unfold List.Nodup at ih ⊢
    rw [List.pairwise_flatMap]
    rw [List.pairwise_map] at ih
    refine ⟨fun x hx => ?_, ih.imp fun {x y} hxy => ?_⟩
    · unfold extS
      rw [List.map_map, List.pairwise_map]
      refine List.Pairwise.imp_of_mem (R := (· ≠ ·)) (fun {a b} _ _ hab he => ?_) (List.nodup_range)
      have h2 : x.1 ++ [a] = x.1 ++ [b] := he
      exact hab (by simpa using h2)
    · intro u hu v hv he
      obtain ⟨a, ha, rfl⟩ := List.mem_map.mp hu
      obtain ⟨b, hb, rfl⟩ := List.mem_map.mp hv
      obtain ⟨s, _, rfl⟩ := List.mem_map.mp ha
      obtain ⟨t, _, rfl⟩ := List.mem_map.mp hb
      exact hxy (List.append_inj_left' he rfl)
def fewB (k : Nat) (p : List Nat) : Bool := (List.range p.length).all fun i => decide ((stf p (i + 1)).length ≤ k)
theorem fewB_iff {k : Nat} {p : List Nat} : fewB k p = true ↔ Few k p := by
  unfold fewB Few
  simp only [List.all_eq_true, List.mem_range, decide_eq_true_eq]
/-- those with at most k runs that write least -/
def selB (k n : Nat) (p : List Nat) : Bool := fewB k p && decide (mx (stf p p.length) = lw k n)
def selS (k n : Nat) (l : List (List Nat × Nat)) : List (List Nat) := (l.map Prod.fst).filter (selB k n)
theorem ppl_few {k : Nat} (hk : 1 ≤ k) (n : Nat) : Few k (ppl k n) := fun i hi => by
  rw [ppl_len] at hi
  rw [stf_ppl k n (i + 1) (by omega)]
  exact (pst_ok hk (i + 1)).1.1
theorem ppl_sel {k n : Nat} (hk : 1 ≤ k) (hn : n ≠ 0) : ppl k n ∈ selS k n (schL n) := by
  refine List.mem_filter.mpr ⟨List.mem_map.mpr ⟨_, schL_all n _ (ppl_good hk n) (ppl_len k n), rfl⟩, ?_⟩
  unfold selB
  rw [fewB_iff.mpr (ppl_few hk n), ppl_len, stf_ppl k n n (Nat.le_refl _), pst_mx hk hn]
  simp
theorem sel_one {k n : Nat} (hk : 1 ≤ k) (hn : n ≠ 0) (hl : n + 1 = bin (k + lw k n) k) : selS k n (schL n) = [ppl k n] := by
  have hm := ppl_sel hk hn
  have nd : (selS k n (schL n)).Nodup := (schL_nd n).filter _
  have all : ∀ p, p ∈ selS k n (schL n) → p = ppl k n := fun p hp => by
    obtain ⟨h1, h2⟩ := List.mem_filter.mp hp
    obtain ⟨x, hx, rfl⟩ := List.mem_map.mp h1
    obtain ⟨g1, g2, _⟩ := schL_ok n x hx
    unfold selB at h2
    simp only [Bool.and_eq_true, decide_eq_true_eq] at h2
    exact few_uniq (by rw [g2, ppl_len]) (by rw [g2]; exact hl) g1 (ppl_good hk n) (fewB_iff.mp h2.1) (ppl_few hk n) h2.2 (by rw [ppl_len, stf_ppl k n n (Nat.le_refl _), pst_mx hk hn])
  match h : selS k n (schL n) with
  | [] => rw [h] at hm; cases hm
  | [x] => rw [all x (by rw [h]; simp)]
  | x :: y :: r =>
    have e1 := all x (by rw [h]; simp)
    have e2 := all y (by rw [h]; simp)
    rw [h] at nd
    have := (List.nodup_cons.mp nd).1
    exact (this (by rw [e1, e2]; simp)).elim
theorem u65 {k : Nat} {A : Around} (r : Room k A) : A.units + 65 < cLine := by have := r.un; omega
theorem selS_succ {k n j : Nat} {x : List Nat × Nat} {l : List (List Nat × Nat)} (h : l[j]? = some x) : selS k n (l.take (j + 1)) = selS k n (l.take j) ++ (if selB k n x.1 then [x.1] else []) := by
  unfold selS
  rw [List.take_add_one, h, List.map_append, List.filter_append]
  congr 1
  show List.filter (selB k n) [x.1] = _
  by_cases e : selB k n x.1 = true
  · rw [if_pos e, List.filter_cons, if_pos e]; rfl
  · rw [if_neg e, List.filter_cons, if_neg e]; rfl
theorem Sh.pl (p : List Nat) : Sh 1 (dPl p) := Sh.tup (k := 0) (Sh.ints _)
theorem Sh.pls (l : List (List Nat)) : Sh 2 (.list (l.map dPl)) := Sh.lst fun d hd => by
  obtain ⟨p, _, rfl⟩ := List.mem_map.mp hd
  exact Sh.pl p
theorem tf_pls (l : List (List Nat)) : ∀ d, d ∈ l.map dPl → Tf d := fun d hd => by
  obtain ⟨p, _, rfl⟩ := List.mem_map.mp hd
  exact tf_dPl p
section
variable {P : Program} {w : World} {K : PySem.W.Frag} {mg : Str → Option Value} {base : Heap}
def sp_L_s5_policy_right (K : PySem.W.Frag) : Sp := fun vs H Q _ => ∃ k : Nat, vs = [.int (k : Int)] ∧ 1 ≤ k ∧ k ≤ 60 ∧ ∀ H', Same H H' → Q (.bl true) H'
theorem ok_L_s5_policy_right (TX : Tx K mg) : FnOk P w K mg base CX0 7 TX.a_L_s5_policy_right TX.fd_L_s5_policy_right ["_law_room"] (sp_L_s5_policy_right K) := by
  refine TX.f_L_s5_policy_right.ok sc_L_s5_policy_right (fun vs H Q E h => ?_) (fun cdv A outer s H vs Q E hr h => ?_)
  · obtain ⟨k, rfl, _⟩ := h; rfl
  · obtain ⟨k, rfl, hk, hk2, q⟩ := h
    refine ⟨_, (pss_cons (ps_set (i := 1) sc_L_s5_policy_right.nd rfl (.inl rfl) (pe_call (ok_L_s5_profile TX) (hr.mono (by decide)) (by rfl) TX.g_L_s5_profile TX.f_L_s5_profile.kp TX.bd_L_s5_profile .nil pass0 (pa_cons (pe_call (ok_policy_schedule TX) (hr.mono (by decide)) (by rfl) TX.g_policy_schedule TX.f_policy_schedule.kp TX.bd_policy_schedule .nil pass0 (pa_cons (pv 0) (pa_cons pe_int pa_nil))) pa_nil)))
      (pss_cons (ps_for PassesOwn.never rfl (pi_enum (by rfl) TX.b_enumerate (pa_cons (pv 1) pa_nil)) (pg_tup rfl (pgs_cons (pg_name (i := 2) sc_L_s5_policy_right.nd rfl (.inl rfl)) (pgs_cons (pg_tup rfl (pgs_cons (pg_name (i := 3) sc_L_s5_policy_right.nd rfl (.inl rfl)) (pgs_cons (pg_name (i := 4) sc_L_s5_policy_right.nd rfl (.inl rfl)) pgs_nil))) pgs_nil)))
        (pss_one (ps_if (PW.pt (pw_or (pt_cmpR op_gt (pv 4) (pv 0) (nomark _)) (pw_or (pt_cmpR op_ne (pv 3) (pe_call (ok_least_writes TX) (hr.mono (by decide)) (by rfl) TX.g_least_writes TX.f_least_writes.kp TX.bd_least_writes .nil pass0 (pa_cons (pe_op op_add (pv 2) pe_int) (pa_cons (pv 0) pa_nil))) (nomark _)) (pw_or1 (pt_cmpR op_ne (pe_callB (id := "len") (k_len (K := K) rfl) (by rfl) TX.b_len (by decide +kernel) (pa_cons (pe_call (ok_policy_runs TX) (hr.mono (by decide)) (by rfl) TX.g_policy_runs TX.f_policy_runs.kp TX.bd_policy_runs .nil pass0 (pa_cons (pv 0) (pa_cons (pe_op op_add (pv 2) pe_int) pa_nil))) pa_nil)) (pv 4) (nomark _))))))
          (pss_one (ps_ret pe_bl))
          pss_nil)))
      (pss_one (ps_ret pe_bl)))), ?_⟩
    refine ⟨_, rfl, k, 60, rfl, hk, hk2, by omega, fun H1 p1 s1 hp1 => ⟨p1, ppl k 60, stf (ppl k 60), rfl, hp1, by rw [ppl_len]; omega, (ppl_good hk 60).sts, fun H2 F cs s2 nF hF hC => ?_⟩⟩
    rw [ppl_len] at hC
    have hcl := DpAll.len hC
    rw [dPf_len] at hcl
    refine ⟨.ref F, rfl, F, _, rfl, .inl (.inl hF), for_it walk_enum (fun i σ G => ∃ y2 y3 y4, σ = [some (.int (k : Int)), some (.ref F), y2, y3, y4] ∧ Same H2 G) ⟨_, _, _, rfl, .refl _⟩ (fun i σ G _ h => by obtain ⟨_, _, _, _, h⟩ := h; exact .inl (.inl (h _ _ hF))) ?_ ?_⟩
    · rintro i x σ G1 G2 hi ⟨y2, y3, y4, rfl, s3⟩ hy
      obtain ⟨Tp, x1, x2, rfl, nT, rfl, e1, e2⟩ := hy
      cases e1
      rw [hcl] at hi
      obtain ⟨v, hv, hd⟩ := DpAll.get (DpAll.same s3 hC) (dPf_at (st := stf (ppl k 60)) hi)
      rw [stf_ppl k 60 (i + 1) (by omega)] at hd
      replace e2 : cs[i]? = some x2 := e2
      rw [hv] at e2
      cases e2
      obtain ⟨tp, rfl, htp⟩ := Dp.intsInv (ns := [((mx (pst k (i + 1)) : Nat) : Int), (((pst k (i + 1)).length : Nat) : Int)]) hd
      have sT := same_upd (o := .tup [.int (i : Nat), .ref tp]) nT
      refine ⟨Tp, _, rfl, .inl (.inl upd_same), rfl, _, _, rfl, _, _, rfl, tp, _, rfl, Same.tup sT htp, rfl, _, _, rfl, _, _, rfl, rfl, rfl, ?_⟩
      obtain ⟨g1, g2, g3⟩ := pst_ok hk (i + 1)
      have hm := pst_mx hk (n := i + 1) (by omega)
      have hl := pst_len hk (i + 1)
      have ei : (i : Int) + 1 = ((i + 1 : Nat) : Int) := by omega
      refine ⟨_, rfl, _, rfl, _, _, rfl, rfl, _, rfl, decF (by have := g1.1; omega) ?_⟩
      refine ⟨_, rfl, _, rfl, _, _, rfl, rfl, _, rfl, i + 1, k, ?_, hk, hk2, by omega, rfl, false, ?_, iteF ?_⟩
      · show [V.int _, V.int _] = [V.int _, V.int _]
        rw [ei]
      · rw [hm]; simp
      refine ⟨_, rfl, _, rfl, _, _, rfl, rfl, k, i + 1, ?_, hk, hk2, by omega, fun H4 p4 s4 hp4 => ?_⟩
      · show [V.int _, V.int _] = [V.int _, V.int _]
        rw [ei]
      refine ⟨p4, _, rfl, .inr hp4, _, rfl, rfl, false, ?_, iteF ?_⟩
      · rw [vi_len, hl]; simp
      · exact ⟨_, _, _, rfl, s3.trans (sT.trans s4)⟩
    · rintro σ G ⟨y2, y3, y4, rfl, s3⟩
      exact q _ (s1.trans (s2.trans s3))
def sp_L_s5_others_right (K : PySem.W.Frag) : Sp := fun vs H Q _ => ∃ n k : Nat, vs = [.int (n : Int), .int (k : Int)] ∧ 1 ≤ n ∧ n ≤ 7 ∧ 1 ≤ k ∧ k ≤ 30 ∧ ∀ H', Same H H' → Q (.bl true) H'
theorem ok_L_s5_others_right (TX : Tx K mg) : FnOk P w K mg base CX0 7 TX.a_L_s5_others_right TX.fd_L_s5_others_right ["_law_total", "_law_room"] (sp_L_s5_others_right K) := by
  refine TX.f_L_s5_others_right.ok sc_L_s5_others_right (fun vs H Q E h => ?_) (fun cdv A outer s H vs Q E hr h => ?_)
  · obtain ⟨n, k, rfl, _⟩ := h; rfl
  · obtain ⟨n, k, rfl, hn1, hn7, hk, hk2, q⟩ := h
    refine ⟨_, (pss_cons (ps_par (i := 2) (j := 3) (by rfl) sc_L_s5_others_right.nd rfl rfl (by decide) rfl rfl (pa_cons (pe_call (ok_least_writes TX) (hr.mono (by decide)) (by rfl) TX.g_least_writes TX.f_least_writes.kp TX.bd_least_writes .nil pass0 (pa_cons (pv 0) (pa_cons (pv 1) pa_nil))) (pa_cons (pe_lst pa_nil) pa_nil)) (by rfl))
      (pss_cons (ps_for PassesOwn.never rfl (k_piL (K := K) rfl (pe_call (ok_L_s5_schedules TX) (hr.mono (by decide)) (by rfl) TX.g_L_s5_schedules TX.f_L_s5_schedules.kp TX.bd_L_s5_schedules .nil pass0 (pa_cons (pv 0) pa_nil))) (pg_name (i := 4) sc_L_s5_others_right.nd rfl (.inl rfl))
        (pss_cons (ps_set (i := 5) sc_L_s5_others_right.nd rfl (.inl rfl) (pe_call (ok_L_s5_profile TX) (hr.mono (by decide)) (by rfl) TX.g_L_s5_profile TX.f_L_s5_profile.kp TX.bd_L_s5_profile .nil pass0 (pa_cons (pv 4) pa_nil)))
        (pss_one (ps_if (pt_cmpR op_le (pe_callB (id := "max") (cr_max rfl) (by rfl) TX.b_max (by decide +kernel) (pa_cons (pe_lc (own := [("_law_written", 6), ("_law_runs", 7)]) (by rfl) sc_L_s5_others_right.nd (k_piL (K := K) rfl (pv 5)) (blkOk_by (own := [("_law_written", 6), ("_law_runs", 7)]) (N := N_L_s5_others_right) (sc := defScope s_L_s5_others_right) (by decide +kernel)) (fun _ _ _ _ _ => (k_pgT2 (K := K) rfl rfl (pg_name (i := 6) sc_L_s5_others_right.nd rfl (Or.inl rfl)) (pg_name (i := 7) sc_L_s5_others_right.nd rfl (Or.inl rfl)))) (fun _ _ _ _ _ => pts_nil) (fun _ _ _ _ _ => (pv 7))) pa_nil)) (pv 1) (nomark _))
          (pss_cons (ps_if (pt_cmpR op_lt (pe_ix (k_ixT (K := K) rfl) (pe_ix (k_ixL (K := K) rfl) (pv 5) (pe_un un_neg pe_int) (fun _ _ => rfl)) pe_int (fun _ _ => rfl)) (pv 2) (nomark _))
            (pss_one (ps_ret pe_bl))
            pss_nil)
          (pss_one (ps_expr (pe_bm PySem.F.plainAttrs_list PySem.F.slot_list_extend PySem.F.type_list_extend mt_extend (pv 3) (pa_cons (pe_op op_rep (pe_lst (pa_cons (pv 4) pa_nil)) (pe_callTy (T := "int") call_int1 (by rfl) TX.b_int (by decide +kernel) (pa_cons (pe_cmpR op_eq (pe_ix (k_ixT (K := K) rfl) (pe_ix (k_ixL (K := K) rfl) (pv 5) (pe_un un_neg pe_int) (fun _ _ => rfl)) pe_int (fun _ _ => rfl)) (pv 2) (nomark _)) pa_nil))) pa_nil)))))
          pss_nil))))
      (pss_cons (ps_if (pt_cmpR (op_notInD (u65 hr)) (pe_call (ok_policy_schedule TX) (hr.mono (by decide)) (by rfl) TX.g_policy_schedule TX.f_policy_schedule.kp TX.bd_policy_schedule .nil pass0 (pa_cons (pv 1) (pa_cons (pv 0) pa_nil))) (pv 3) (by rfl))
        (pss_one (ps_ret pe_bl))
        pss_nil)
      (pss_one (ps_ret (pe_or (pe_cmpR op_ne (pv 0) (pe_call (ok_lifetime TX) (hr.mono (by decide)) (by rfl) TX.g_lifetime TX.f_lifetime.kp TX.bd_lifetime .nil pass0 (pa_cons (pv 1) (pa_cons (pv 2) pa_nil))) (nomark _)) (pe_one (pe_cmpR (op_eqD hr.units) (pv 3) (pe_lst (pa_cons (pe_call (ok_policy_schedule TX) (hr.mono (by decide)) (by rfl) TX.g_policy_schedule TX.f_policy_schedule.kp TX.bd_policy_schedule .nil pass0 (pa_cons (pv 1) (pa_cons (pv 0) pa_nil))) pa_nil)) (nomark _))))))))), ?_⟩
    have hll := schL_len n hn7
    refine ⟨_, rfl, _, rfl, n, k, rfl, hk, by omega, by omega, sz60 (by simp), fun S nS => ⟨_, _, rfl, ?_⟩⟩
    have s0 := same_upd (o := .lst []) nS
    have hS0 := upd_same (H := H) (a := S) (o := .lst [])
    generalize upd H S (.lst []) = H0 at s0 hS0 ⊢
    refine ⟨_, rfl, n, rfl, hn7, fun G l us s1 nl hl hus => ?_⟩
    have hSG := s1 _ _ hS0
    have hlS : l ≠ S := fun e => by rw [e, hS0] at nl; cases nl
    have hul := DpAll.len hus
    rw [List.length_map] at hul
    refine ⟨l, rfl, ⟨_, .inl (.inl hl)⟩, for_list (K := K) (xs := us) (fun j σ G' => ∃ y4 y5 y6 y7 acc, σ = [some (.int (n : Int)), some (.int (k : Int)), some (.int (lw k n : Int)), some (.ref S), y4, y5, y6, y7] ∧ But S G G' ∧ G' S = some (.lst acc) ∧ DpAll K G' acc ((selS k n ((schL n).take j)).map dPl)) ⟨_, _, _, _, [], rfl, .refl, hSG, .nil⟩ (fun j σ G' _ h => by obtain ⟨_, _, _, _, _, _, h, _⟩ := h; exact .inl (.inl (h _ _ hlS hl))) ?_ ?_⟩
    · rintro j v σ G1 hv ⟨y4, y5, y6, y7, acc, rfl, b1, hS1, hA1⟩
      have hj : j < (schL n).length := by have := (List.getElem?_eq_some_iff.mp hv).1; omega
      have hg' := List.getElem?_eq_getElem hj
      have hus1 := DpAll.keep (But.keep b1 hSG) (fun d hd => by obtain ⟨z, _, rfl⟩ := List.mem_map.mp hd; exact tf_dPl _) hus
      obtain ⟨v', hv', hd⟩ := DpAll.get hus1 (i := j) (d := dPl (schL n)[j].1) (by rw [List.getElem?_map, hg']; rfl)
      rw [hv] at hv'
      cases hv'
      obtain ⟨hg, hpl, _⟩ := schL_ok n _ (List.getElem_mem hj)
      obtain ⟨tb, rfl, htb⟩ := Dp.intsInv hd
      rw [← vi_ci] at htb
      have hsel := selS_succ (k := k) (n := n) hg'
      have hal := DpAll.len hA1
      rw [List.length_map] at hal
      have hal2 : (selS k n ((schL n).take j)).length ≤ 429 := by
        unfold selS
        have h1 := List.length_filter_le (selB k n) (((schL n).take j).map Prod.fst)
        rw [List.length_map, List.length_take] at h1
        omega
      generalize (schL n)[j].1 = pl at hg hpl htb hsel hd
      refine ⟨.ref tb, rfl, tb, pl, stf pl, rfl, htb, by omega, hg.sts, fun H3 F cs s3 nF hF hC => ?_⟩
      have hcl := DpAll.len hC
      rw [dPf_len] at hcl
      refine ⟨.ref F, rfl, F, rfl, ⟨_, .inl (.inl hF)⟩, fun D nD => ?_⟩
      refine lc_ints (K := K) (walk_list (xs := cs)) ((List.range pl.length).map fun i => (((stf pl (i + 1)).length : Nat) : Int)) (by rw [List.length_map, List.length_range, hcl]) (by omega) nD (fun G s => .inl (.inl (s _ _ hF))) ?_ ?_ mono_pair (fun σ' H' Q Q' h => h _ _)
      · rintro i x G5 G6 hi s5 ⟨rfl, hx⟩ z hz R hR
        rw [hcl] at hi
        obtain ⟨v, hv, hd⟩ := DpAll.get hC (dPf_at (st := stf pl) hi)
        rw [hv] at hx
        cases hx
        obtain ⟨tp, rfl, htp⟩ := Dp.intsInv (ns := [((mx (stf pl (i + 1)) : Nat) : Int), (((stf pl (i + 1)).length : Nat) : Int)]) hd
        rw [List.getElem?_map, List.getElem?_range hi] at hz
        cases hz
        exact ⟨tp, _, rfl, Same.tup s5 htp, rfl, _, _, rfl, _, _, rfl, rfl, rfl, rfl, _, rfl, hR _ (Same.refl _)⟩
      intro G5 s5 hD5
      have hF5 := s5 _ _ hF
      have hC5 := DpAll.same s5 hC
      have s35 := s3.trans s5
      refine ⟨D, _, rfl, .inl (.inl hD5), by rw [List.length_map, List.length_range]; omega, fun mm hm1 hm2 => ⟨_, rfl, _, _, rfl, rfl, _, rfl, ?_⟩⟩
      have hfew : mm ≤ (k : Int) ↔ Few k pl := by
        constructor
        · intro h i hi
          have := hm2 _ (List.mem_map.mpr ⟨i, List.mem_range.mpr hi, rfl⟩)
          omega
        · intro h
          obtain ⟨i, hi, rfl⟩ := List.mem_map.mp hm1
          have := h i (List.mem_range.mp hi)
          omega
      by_cases hfe : Few k pl
      · refine decT (hfew.mpr hfe) ?_
        obtain ⟨n1, hn1⟩ : ∃ n1, pl.length = n1 + 1 := ⟨n - 1, by omega⟩
        rw [hn1, dPf_succ] at hC5
        obtain ⟨ws, v, hus', hu1, hu2⟩ := DpAll.snoc hC5
        obtain ⟨tp, rfl, htp⟩ := Dp.intsInv (ns := [((mx (stf pl (n1 + 1)) : Nat) : Int), (((stf pl (n1 + 1)).length : Nat) : Int)]) hu2
        have hlast : atI cs (-1) = some (V.ref tp) := by rw [hus']; exact atI_last _ _
        have hle := few_least hk hg hfe
        rw [hn1] at hle
        have en : n = n1 + 1 := by omega
        refine ⟨.ref F, rfl, _, rfl, F, cs, _, .ref tp, rfl, rfl, .inl (.inl hF5), hlast, tp, _, _, _, rfl, rfl, htp, rfl, _, rfl, _, _, rfl, rfl, _, rfl, decF (by rw [en]; omega) ?_⟩
        have hS5 := s35 _ _ hS1
        refine ⟨.ref S, rfl, .inl ⟨rfl, _, .inl (.inl hS5)⟩, .ref tb, rfl, sz60 (by simp), fun l2 nl2 => ?_⟩
        have z2 := same_upd (o := .lst [V.ref tb]) nl2
        refine ⟨.ref F, rfl, _, rfl, F, cs, _, .ref tp, rfl, rfl, .inl (.inl (z2 _ _ hF5)), hlast, tp, _, _, _, rfl, rfl, Same.tup z2 htp, rfl, _, rfl, rfl, ?_⟩
        have hb : decide (V.int ((mx (stf pl (n1 + 1)) : Nat) : Int) = V.int (lw k n : Int)) = selB k n pl := by
          unfold selB
          rw [fewB_iff.mpr hfe, Bool.true_and, hn1]
          by_cases e : mx (stf pl (n1 + 1)) = lw k n
          · rw [decide_eq_true e, decide_eq_true (by rw [e])]
          · rw [decide_eq_false e, decide_eq_false (int_ne (by omega))]
        rw [hb]
        refine .inr ⟨_, rfl, ?_⟩
        refine ⟨l2, _, _, rfl, rfl, upd_same, by split <;> omega, by split <;> omega, sz60 (by split <;> simp), fun l3 nl3 => ?_⟩
        have z3 := same_upd (o := .lst (List.replicate (if selB k n pl = true then (1 : Int) else 0).toNat [V.ref tb]).flatten) nl3
        have hS6 := z3 _ _ (z2 _ _ hS5)
        have s36 := s35.trans (z2.trans z3)
        have hlen3 : (List.replicate (if selB k n pl = true then (1 : Int) else 0).toNat [V.ref tb]).flatten.length ≤ 1 := by split <;> simp
        refine ⟨S, l3, acc, _, rfl, rfl, hS6, upd_same, sz60 (by omega), ?_⟩
        clear z3
        generalize upd (upd G5 l2 (.lst [V.ref tb])) l3 (.lst (List.replicate (if selB k n pl = true then (1 : Int) else 0).toNat [V.ref tb]).flatten) = G7 at *
        refine ⟨_, _, _, _, acc ++ (List.replicate (if selB k n pl = true then (1 : Int) else 0).toNat [V.ref tb]).flatten, rfl, (b1.trans (But.of s36)).trans .upd, upd_same, ?_⟩
        rw [hsel, List.map_append]
        refine DpAll.keep (But.keep But.upd hS6) (fun d hd => ?_) (DpAll.append (DpAll.same s36 hA1) ?_)
        · rw [← List.map_append] at hd
          exact tf_pls _ d hd
        · by_cases e : selB k n pl = true
          · rw [if_pos e, if_pos e]
            exact .cons (dp_tup (by rw [← vi_ci]; exact Same.tup s36 htb)) .nil
          · rw [if_neg e, if_neg e]
            exact .nil
      · refine decF (fun h => hfe (hfew.mp h)) ?_
        refine ⟨_, _, _, _, acc, rfl, b1.trans (But.of s35), s35 _ _ hS1, ?_⟩
        have e : selB k n pl = false := by
          unfold selB
          cases e : fewB k pl with
          | false => rfl
          | true => exact (hfe (fewB_iff.mp e)).elim
        rw [hsel, e]
        simpa using DpAll.same s35 hA1
    · rintro σ G1 ⟨y4, y5, y6, y7, acc, rfl, b1, hS1, hA1⟩
      rw [hul, List.take_length] at hA1
      have s01 : Same H G1 := But.same (s0.trans s1) b1 nS
      obtain ⟨c, hc⟩ : ∃ c, c = lw k n := ⟨_, rfl⟩
      have hcn : lw k n ≤ n := lw_le hk
      refine ⟨_, rfl, _, rfl, k, n, rfl, hk, by omega, by omega, fun H2 p2 s2 hp2 => ?_⟩
      have hp2' : SqT K H2 p2 ((ci (ppl k n)).map V.int) := by rw [← vi_ci]; exact hp2
      have hA2 := DpAll.same s2 hA1
      have hS2 := s2 _ _ hS1
      refine ⟨.ref S, rfl, dPl (ppl k n), (selS k n (schL n)).map dPl, dp_tup hp2', .lst (.inl (.inl hS2)) hA2, (Sh.pl _).shaped (by decide), (Sh.pls _).shaped (by decide), false, ?_, iteF ?_⟩
      · have : (((selS k n (schL n)).map dPl).any fun z => PyData.eqv z (dPl (ppl k n))) = true := by
          rw [List.any_eq_true]
          exact ⟨_, List.mem_map.mpr ⟨_, ppl_sel hk (by omega), rfl⟩, SeqAt.eqv_refl _ (Sh.pl _).1⟩
        rw [this]; rfl
      refine ⟨_, rfl, _, rfl, _, rfl, k, lw k n, rfl, by omega, by omega, fun H3 s3 => ⟨rfl, _, rfl, ?_⟩⟩
      by_cases e : (n : Int) = (bin (k + lw k n) k : Int) - 1
      · refine (show ∀ {A B : Prop}, B → (if (!decide (V.int (n : Int) = V.int ((bin (k + lw k n) k : Int) - 1))) = true then A else B) from fun b => by rw [decide_eq_true (by rw [e])]; exact b) ?_
        have e1 := sel_one hk (by omega) (show n + 1 = bin (k + lw k n) k by omega)
        refine ⟨.ref S, rfl, _, rfl, _, rfl, k, n, rfl, hk, by omega, by omega, fun H4 p4 s4 hp4 => ⟨sz60 (by simp), fun l5 nl5 => ?_⟩⟩
        have z5 := same_upd (o := .lst [V.ref p4]) nl5
        have s25 := s3.trans (s4.trans z5)
        have hA5 := DpAll.same s25 hA2
        have hS5 := s25 _ _ hS2
        rw [e1] at hA5
        refine eq_data (k := 2) (d := .list ([ppl k n].map dPl)) (.lst (.inl (.inl hS5)) hA5) (.lst (.inl (.inl upd_same)) (.cons (dp_tup (by rw [← vi_ci]; exact Same.tup z5 hp4)) .nil)) (Sh.pls _) (by decide) ?_
        exact q _ (s01.trans (s2.trans s25))
      · refine (show ∀ {A B : Prop}, A → (if (!decide (V.int (n : Int) = V.int ((bin (k + lw k n) k : Int) - 1))) = true then A else B) from fun b => by rw [decide_eq_false (int_ne e)]; exact b) ?_
        exact q _ (s01.trans (s2.trans s3))
end
section
variable {P : Program} {w : World} {K : PySem.W.Frag} {mg : Str → Option Value} {base : Heap}
def sp_law (K : PySem.W.Frag) : Sp := fun vs H Q _ => ∃ (a : Addr) (ns : List Int), vs = [.ref a] ∧ SqL K H a (ns.map V.int) ∧ ns.length ≤ 63 ∧ ∀ H', Q (.bl true) H'
theorem nth2 {n : Nat} (x : List V) (h : x.length = n) (i : Nat) (hi : i < (if (if (x.length : Int) < 2 then (x.length : Int) else 2) > 1 then (if (x.length : Int) < 2 then (x.length : Int) else 2) else 1 : Int).toNat) : i ≤ 62 := by
  have : (if (if (x.length : Int) < 2 then (x.length : Int) else 2) > 1 then (if (x.length : Int) < 2 then (x.length : Int) else 2) else 1) ≤ 3 := by split <;> split <;> omega
  omega
theorem ok_law (TX : Tx K mg) : FnOk P w K mg base CX0 8 TX.a_law TX.fd_law ["_law_script"] (sp_law K) := by
  refine TX.f_law.ok sc_law (fun vs H Q E h => ?_) (fun cdv A outer s H vs Q E hr h => ?_)
  · obtain ⟨a, ns, rfl, _⟩ := h; rfl
  · obtain ⟨a, ns, rfl, hS, hlen, q⟩ := h
    refine ⟨_, (pss_cons (ps_if (pt_not (pt_val (pe_callB (id := "all") (cr_all rfl) (by rfl) TX.b_all (by decide +kernel) (pa_cons (pe_lc (own := [("_law_room", 3)]) (by rfl) sc_law.nd (pi_range2 (by rfl) TX.b_range (pa_cons pe_int (pa_cons pe_int pa_nil))) (blkOk_by (own := [("_law_room", 3)]) (N := N_law) (sc := defScope s_law) (by decide +kernel)) (fun _ _ _ _ _ => (pg_name (i := 3) sc_law.nd rfl (Or.inl rfl))) (fun _ _ _ _ _ => pts_nil) (fun _ _ _ _ _ => (pe_call (ok_L_s5_policy_right TX) (hr.mono (by decide)) (by rfl) TX.g_L_s5_policy_right TX.f_L_s5_policy_right.kp TX.bd_L_s5_policy_right .nil pass0 (pa_cons (pv 3) pa_nil)))) pa_nil))))
        (pss_one (ps_ret pe_bl))
        pss_nil)
      (pss_cons (ps_for PassesOwn.never rfl (pi_range1 (by rfl) TX.b_range (pa_cons (pe_callB (id := "max") (call_max2 rfl) (by rfl) TX.b_max (by decide +kernel) (pa_cons pe_int (pa_cons (pe_callB (id := "min") (call_min2 rfl) (by rfl) TX.b_min (by decide +kernel) (pa_cons pe_int (pa_cons (pe_callB (id := "len") (k_len (K := K) rfl) (by rfl) TX.b_len (by decide +kernel) (pa_cons (pv 0) pa_nil)) pa_nil))) pa_nil))) pa_nil)) (pg_name (i := 1) sc_law.nd rfl (.inl rfl))
        (pss_cons (ps_set (i := 2) sc_law.nd rfl (.inl rfl) (pe_call (ok_L_s5_hand TX) (hr.mono (by decide)) (by rfl) TX.g_L_s5_hand TX.f_L_s5_hand.kp TX.bd_L_s5_hand .nil pass0 (pa_cons (pv 0) (pa_cons (pv 1) pa_nil))))
        (pss_cons (ps_set (i := 3) sc_law.nd rfl (.inr rfl) (pe_op op_add pe_int (pe_call (ok_L_s5_take TX) (hr.mono (by decide)) (by rfl) TX.g_L_s5_take TX.f_L_s5_take.kp TX.bd_L_s5_take .nil pass0 (pa_cons (pv 2) (pa_cons pe_int pa_nil)))))
        (pss_one (ps_if (pt_not (pt_val (pe_callB (id := "all") (cr_all rfl) (by rfl) TX.b_all (by decide +kernel) (pa_cons (pe_lc (own := [("_law_total", 4)]) (by rfl) sc_law.nd (pi_range2 (by rfl) TX.b_range (pa_cons pe_int (pa_cons pe_int pa_nil))) (blkOk_by (own := [("_law_total", 4)]) (N := N_law) (sc := defScope s_law) (by decide +kernel)) (fun _ _ _ _ _ => (pg_name (i := 4) sc_law.nd rfl (Or.inl rfl))) (fun _ _ _ _ _ => pts_nil) (fun _ _ _ _ _ => (pe_call (ok_L_s5_others_right TX) (hr.mono (by decide)) (by rfl) TX.g_L_s5_others_right TX.f_L_s5_others_right.kp TX.bd_L_s5_others_right .nil pass0 (pa_cons (pv 4) (pa_cons (pv 3) pa_nil))))) pa_nil))))
          (pss_one (ps_ret pe_bl))
          pss_nil)))))
      (pss_one (ps_ret pe_bl)))), ?_⟩
    have eall : ∀ n, (List.replicate n true).all id = true := fun n => by simp
    refine ⟨_, _, rfl, ⟨by decide, by decide, by decide, by decide⟩, fun D nD => ?_⟩
    refine lc_bools (K := K) walk_range (List.replicate 5 true) (by rfl) (by decide) nD (fun _ _ => trivial) ?_ ?_ (fun x σ' H' Q Q' h => h _ _) (fun σ' H' Q Q' h => h _ _)
    · rintro i x H2 H2' hi s2 ⟨rfl, rfl⟩ b hb R hR
      have hi5 : i < 5 := hi
      rw [List.getElem?_replicate, if_pos hi5] at hb
      cases hb
      refine ⟨rfl, rfl, _, rfl, 1 + i, ?_, by omega, by omega, fun H3 s3 => hR _ s3⟩
      show [V.int _] = [V.int _]
      rw [show (1 : Int) + (i : Int) = ((1 + i : Nat) : Int) by omega]
    intro H1 s1 hD
    refine ⟨D, _, rfl, .inl (.inl hD), true, by rw [eall], iteF ?_⟩
    have hS1 := Same.seq s1 hS
    refine ⟨.ref a, rfl, a, _, rfl, .inl hS1, _, _, rfl, _, _, rfl, _, rfl, ?_, ?_, ?_⟩
    · split <;> split <;> omega
    · split <;> split <;> omega
    refine for_range (lo := 0) (fun i σ G2 => ∃ y1 y2 y3 y4, σ = [some (.ref a), y1, y2, y3, y4] ∧ Same H1 G2) ⟨_, _, _, _, rfl, .refl _⟩ ?_ (fun σ H' _ => q H')
    rintro i σ G1 hi ⟨y1, y2, y3, y4, rfl, x1⟩
    have hi2 : i ≤ 62 := nth2 _ rfl i hi
    have ei : (0 : Int) + (i : Nat) = (i : Int) := by omega
    rw [ei]
    refine ⟨.ref a, rfl, _, rfl, a, ns, i, rfl, Same.seq x1 hS1, hi2, fun G2 p s2 np pp => ?_⟩
    refine ⟨.ref p, rfl, p, 4, _, rfl, pp, by omega, by decide, by decide, fun G3 r b3 p3 r0 r1 => ⟨_, _, rfl, rfl, ?_⟩⟩
    obtain ⟨k0, rfl⟩ : ∃ k : Nat, r = (k : Int) := ⟨r.toNat, by omega⟩
    have e1 : (1 : Int) + (k0 : Int) = ((1 + k0 : Nat) : Int) := by omega
    dsimp only
    rw [e1]
    have s13 : Same G1 G3 := But.same s2 b3 np
    refine ⟨_, _, rfl, ⟨by decide, by decide, by decide, by decide⟩, fun D2 nD2 => ?_⟩
    refine lc_bools (K := K) walk_range (List.replicate 7 true) (by rfl) (by decide) nD2 (fun _ _ => trivial) ?_ ?_ (fun x σ' H' Q Q' h => h _ _) (fun σ' H' Q Q' h => h _ _)
    · rintro j x H2 H2' hj s4 ⟨rfl, rfl⟩ b hb R hR
      have hj7 : j < 7 := hj
      rw [List.getElem?_replicate, if_pos hj7] at hb
      cases hb
      refine ⟨rfl, rfl, _, rfl, _, rfl, 1 + j, 1 + k0, ?_, by omega, by omega, by omega, by omega, fun H3 s3 => hR _ s3⟩
      show [V.int _, _] = [V.int _, _]
      rw [show (1 : Int) + (j : Int) = ((1 + j : Nat) : Int) by omega]
    intro G4 s4 hD2
    refine ⟨D2, _, rfl, .inl (.inl hD2), true, by rw [eall], iteF ?_⟩
    exact ⟨_, _, _, _, rfl, x1.trans (s13.trans s4)⟩
end
theorem all_mk {l : PySem.W.OpenLaw} {w : World} {K : PySem.W.Frag} {h : Heap} {mg : Str → Option Value} {fa : Addr} (X : K.In h) (G : h.Ns mainGlobals mg) (hfa : mg "law" = some (.ref fa))
    {f_is_int : Addr} {od_is_int an_is_int : Option Addr} {sl_is_int : Array (Option Value)} {oc_is_int kV_is_int dc_is_int pm_is_int cd_is_int ct_is_int : Value}
    (a_is_int : PySem.W.nsIn K mainGlobals "is_int" = some (some (.ref f_is_int))) (l_is_int : K.lookup f_is_int = some ⟨oc_is_int, od_is_int, .func (PySem.W.fnOf "is_int" "is_int" (defArgs s_is_int) (defBody s_is_int) (defScope s_is_int) .none kV_is_int dc_is_int pm_is_int an_is_int cd_is_int ct_is_int), sl_is_int⟩) (c_is_int : PySem.W.codeIn K cd_is_int "is_int" = true) (k_is_int : PySem.W.keepIn K (.ref f_is_int) = true)
    {f_is_count : Addr} {od_is_count an_is_count : Option Addr} {sl_is_count : Array (Option Value)} {oc_is_count kV_is_count dc_is_count pm_is_count cd_is_count ct_is_count : Value}
    (a_is_count : PySem.W.nsIn K mainGlobals "is_count" = some (some (.ref f_is_count))) (l_is_count : K.lookup f_is_count = some ⟨oc_is_count, od_is_count, .func (PySem.W.fnOf "is_count" "is_count" (defArgs s_is_count) (defBody s_is_count) (defScope s_is_count) .none kV_is_count dc_is_count pm_is_count an_is_count cd_is_count ct_is_count), sl_is_count⟩) (c_is_count : PySem.W.codeIn K cd_is_count "is_count" = true) (k_is_count : PySem.W.keepIn K (.ref f_is_count) = true)
    {f_is_count_up_to : Addr} {od_is_count_up_to an_is_count_up_to : Option Addr} {sl_is_count_up_to : Array (Option Value)} {oc_is_count_up_to kV_is_count_up_to dc_is_count_up_to pm_is_count_up_to cd_is_count_up_to ct_is_count_up_to : Value}
    (a_is_count_up_to : PySem.W.nsIn K mainGlobals "is_count_up_to" = some (some (.ref f_is_count_up_to))) (l_is_count_up_to : K.lookup f_is_count_up_to = some ⟨oc_is_count_up_to, od_is_count_up_to, .func (PySem.W.fnOf "is_count_up_to" "is_count_up_to" (defArgs s_is_count_up_to) (defBody s_is_count_up_to) (defScope s_is_count_up_to) .none kV_is_count_up_to dc_is_count_up_to pm_is_count_up_to an_is_count_up_to cd_is_count_up_to ct_is_count_up_to), sl_is_count_up_to⟩) (c_is_count_up_to : PySem.W.codeIn K cd_is_count_up_to "is_count_up_to" = true) (k_is_count_up_to : PySem.W.keepIn K (.ref f_is_count_up_to) = true)
    {f_check_budgets : Addr} {od_check_budgets an_check_budgets : Option Addr} {sl_check_budgets : Array (Option Value)} {oc_check_budgets kV_check_budgets dc_check_budgets pm_check_budgets cd_check_budgets ct_check_budgets : Value}
    (a_check_budgets : PySem.W.nsIn K mainGlobals "check_budgets" = some (some (.ref f_check_budgets))) (l_check_budgets : K.lookup f_check_budgets = some ⟨oc_check_budgets, od_check_budgets, .func (PySem.W.fnOf "check_budgets" "check_budgets" (defArgs s_check_budgets) (defBody s_check_budgets) (defScope s_check_budgets) .none kV_check_budgets dc_check_budgets pm_check_budgets an_check_budgets cd_check_budgets ct_check_budgets), sl_check_budgets⟩) (c_check_budgets : PySem.W.codeIn K cd_check_budgets "check_budgets" = true) (k_check_budgets : PySem.W.keepIn K (.ref f_check_budgets) = true)
    {f_lifetime : Addr} {od_lifetime an_lifetime : Option Addr} {sl_lifetime : Array (Option Value)} {oc_lifetime kV_lifetime dc_lifetime pm_lifetime cd_lifetime ct_lifetime : Value}
    (a_lifetime : PySem.W.nsIn K mainGlobals "lifetime" = some (some (.ref f_lifetime))) (l_lifetime : K.lookup f_lifetime = some ⟨oc_lifetime, od_lifetime, .func (PySem.W.fnOf "lifetime" "lifetime" (defArgs s_lifetime) (defBody s_lifetime) (defScope s_lifetime) .none kV_lifetime dc_lifetime pm_lifetime an_lifetime cd_lifetime ct_lifetime), sl_lifetime⟩) (c_lifetime : PySem.W.codeIn K cd_lifetime "lifetime" = true) (k_lifetime : PySem.W.keepIn K (.ref f_lifetime) = true)
    {f_choose : Addr} {od_choose an_choose : Option Addr} {sl_choose : Array (Option Value)} {oc_choose kV_choose dc_choose pm_choose cd_choose ct_choose : Value}
    (a_choose : PySem.W.nsIn K mainGlobals "choose" = some (some (.ref f_choose))) (l_choose : K.lookup f_choose = some ⟨oc_choose, od_choose, .func (PySem.W.fnOf "choose" "choose" (defArgs s_choose) (defBody s_choose) (defScope s_choose) .none kV_choose dc_choose pm_choose an_choose cd_choose ct_choose), sl_choose⟩) (c_choose : PySem.W.codeIn K cd_choose "choose" = true) (k_choose : PySem.W.keepIn K (.ref f_choose) = true)
    {f_least_writes : Addr} {od_least_writes an_least_writes : Option Addr} {sl_least_writes : Array (Option Value)} {oc_least_writes kV_least_writes dc_least_writes pm_least_writes cd_least_writes ct_least_writes : Value}
    (a_least_writes : PySem.W.nsIn K mainGlobals "least_writes" = some (some (.ref f_least_writes))) (l_least_writes : K.lookup f_least_writes = some ⟨oc_least_writes, od_least_writes, .func (PySem.W.fnOf "least_writes" "least_writes" (defArgs s_least_writes) (defBody s_least_writes) (defScope s_least_writes) .none kV_least_writes dc_least_writes pm_least_writes an_least_writes cd_least_writes ct_least_writes), sl_least_writes⟩) (c_least_writes : PySem.W.codeIn K cd_least_writes "least_writes" = true) (k_least_writes : PySem.W.keepIn K (.ref f_least_writes) = true)
    {f_check_number : Addr} {od_check_number an_check_number : Option Addr} {sl_check_number : Array (Option Value)} {oc_check_number kV_check_number dc_check_number pm_check_number cd_check_number ct_check_number : Value}
    (a_check_number : PySem.W.nsIn K mainGlobals "check_number" = some (some (.ref f_check_number))) (l_check_number : K.lookup f_check_number = some ⟨oc_check_number, od_check_number, .func (PySem.W.fnOf "check_number" "check_number" (defArgs s_check_number) (defBody s_check_number) (defScope s_check_number) .none kV_check_number dc_check_number pm_check_number an_check_number cd_check_number ct_check_number), sl_check_number⟩) (c_check_number : PySem.W.codeIn K cd_check_number "check_number" = true) (k_check_number : PySem.W.keepIn K (.ref f_check_number) = true)
    {f_check_runs : Addr} {od_check_runs an_check_runs : Option Addr} {sl_check_runs : Array (Option Value)} {oc_check_runs kV_check_runs dc_check_runs pm_check_runs cd_check_runs ct_check_runs : Value}
    (a_check_runs : PySem.W.nsIn K mainGlobals "check_runs" = some (some (.ref f_check_runs))) (l_check_runs : K.lookup f_check_runs = some ⟨oc_check_runs, od_check_runs, .func (PySem.W.fnOf "check_runs" "check_runs" (defArgs s_check_runs) (defBody s_check_runs) (defScope s_check_runs) .none kV_check_runs dc_check_runs pm_check_runs an_check_runs cd_check_runs ct_check_runs), sl_check_runs⟩) (c_check_runs : PySem.W.codeIn K cd_check_runs "check_runs" = true) (k_check_runs : PySem.W.keepIn K (.ref f_check_runs) = true)
    {f_writes_needed : Addr} {od_writes_needed an_writes_needed : Option Addr} {sl_writes_needed : Array (Option Value)} {oc_writes_needed kV_writes_needed dc_writes_needed pm_writes_needed cd_writes_needed ct_writes_needed : Value}
    (a_writes_needed : PySem.W.nsIn K mainGlobals "writes_needed" = some (some (.ref f_writes_needed))) (l_writes_needed : K.lookup f_writes_needed = some ⟨oc_writes_needed, od_writes_needed, .func (PySem.W.fnOf "writes_needed" "writes_needed" (defArgs s_writes_needed) (defBody s_writes_needed) (defScope s_writes_needed) .none kV_writes_needed dc_writes_needed pm_writes_needed an_writes_needed cd_writes_needed ct_writes_needed), sl_writes_needed⟩) (c_writes_needed : PySem.W.codeIn K cd_writes_needed "writes_needed" = true) (k_writes_needed : PySem.W.keepIn K (.ref f_writes_needed) = true)
    {f_policy_merge : Addr} {od_policy_merge an_policy_merge : Option Addr} {sl_policy_merge : Array (Option Value)} {oc_policy_merge kV_policy_merge dc_policy_merge pm_policy_merge cd_policy_merge ct_policy_merge : Value}
    (a_policy_merge : PySem.W.nsIn K mainGlobals "policy_merge" = some (some (.ref f_policy_merge))) (l_policy_merge : K.lookup f_policy_merge = some ⟨oc_policy_merge, od_policy_merge, .func (PySem.W.fnOf "policy_merge" "policy_merge" (defArgs s_policy_merge) (defBody s_policy_merge) (defScope s_policy_merge) .none kV_policy_merge dc_policy_merge pm_policy_merge an_policy_merge cd_policy_merge ct_policy_merge), sl_policy_merge⟩) (c_policy_merge : PySem.W.codeIn K cd_policy_merge "policy_merge" = true) (k_policy_merge : PySem.W.keepIn K (.ref f_policy_merge) = true)
    {f_run_lengths : Addr} {od_run_lengths an_run_lengths : Option Addr} {sl_run_lengths : Array (Option Value)} {oc_run_lengths kV_run_lengths dc_run_lengths pm_run_lengths cd_run_lengths ct_run_lengths : Value}
    (a_run_lengths : PySem.W.nsIn K mainGlobals "run_lengths" = some (some (.ref f_run_lengths))) (l_run_lengths : K.lookup f_run_lengths = some ⟨oc_run_lengths, od_run_lengths, .func (PySem.W.fnOf "run_lengths" "run_lengths" (defArgs s_run_lengths) (defBody s_run_lengths) (defScope s_run_lengths) .none kV_run_lengths dc_run_lengths pm_run_lengths an_run_lengths cd_run_lengths ct_run_lengths), sl_run_lengths⟩) (c_run_lengths : PySem.W.codeIn K cd_run_lengths "run_lengths" = true) (k_run_lengths : PySem.W.keepIn K (.ref f_run_lengths) = true)
    {f_policy_runs : Addr} {od_policy_runs an_policy_runs : Option Addr} {sl_policy_runs : Array (Option Value)} {oc_policy_runs kV_policy_runs dc_policy_runs pm_policy_runs cd_policy_runs ct_policy_runs : Value}
    (a_policy_runs : PySem.W.nsIn K mainGlobals "policy_runs" = some (some (.ref f_policy_runs))) (l_policy_runs : K.lookup f_policy_runs = some ⟨oc_policy_runs, od_policy_runs, .func (PySem.W.fnOf "policy_runs" "policy_runs" (defArgs s_policy_runs) (defBody s_policy_runs) (defScope s_policy_runs) .none kV_policy_runs dc_policy_runs pm_policy_runs an_policy_runs cd_policy_runs ct_policy_runs), sl_policy_runs⟩) (c_policy_runs : PySem.W.codeIn K cd_policy_runs "policy_runs" = true) (k_policy_runs : PySem.W.keepIn K (.ref f_policy_runs) = true)
    {f_policy_schedule : Addr} {od_policy_schedule an_policy_schedule : Option Addr} {sl_policy_schedule : Array (Option Value)} {oc_policy_schedule kV_policy_schedule dc_policy_schedule pm_policy_schedule cd_policy_schedule ct_policy_schedule : Value}
    (a_policy_schedule : PySem.W.nsIn K mainGlobals "policy_schedule" = some (some (.ref f_policy_schedule))) (l_policy_schedule : K.lookup f_policy_schedule = some ⟨oc_policy_schedule, od_policy_schedule, .func (PySem.W.fnOf "policy_schedule" "policy_schedule" (defArgs s_policy_schedule) (defBody s_policy_schedule) (defScope s_policy_schedule) .none kV_policy_schedule dc_policy_schedule pm_policy_schedule an_policy_schedule cd_policy_schedule ct_policy_schedule), sl_policy_schedule⟩) (c_policy_schedule : PySem.W.codeIn K cd_policy_schedule "policy_schedule" = true) (k_policy_schedule : PySem.W.keepIn K (.ref f_policy_schedule) = true)
    {f_L_s5_hand : Addr} {od_L_s5_hand an_L_s5_hand : Option Addr} {sl_L_s5_hand : Array (Option Value)} {oc_L_s5_hand kV_L_s5_hand dc_L_s5_hand pm_L_s5_hand cd_L_s5_hand ct_L_s5_hand : Value}
    (a_L_s5_hand : PySem.W.nsIn K mainGlobals "_law_s5_hand" = some (some (.ref f_L_s5_hand))) (l_L_s5_hand : K.lookup f_L_s5_hand = some ⟨oc_L_s5_hand, od_L_s5_hand, .func (PySem.W.fnOf "_law_s5_hand" "_law_s5_hand" (defArgs s_L_s5_hand) (defBody s_L_s5_hand) (defScope s_L_s5_hand) .none kV_L_s5_hand dc_L_s5_hand pm_L_s5_hand an_L_s5_hand cd_L_s5_hand ct_L_s5_hand), sl_L_s5_hand⟩) (c_L_s5_hand : PySem.W.codeIn K cd_L_s5_hand "_law_s5_hand" = true) (k_L_s5_hand : PySem.W.keepIn K (.ref f_L_s5_hand) = true)
    {f_L_s5_take : Addr} {od_L_s5_take an_L_s5_take : Option Addr} {sl_L_s5_take : Array (Option Value)} {oc_L_s5_take kV_L_s5_take dc_L_s5_take pm_L_s5_take cd_L_s5_take ct_L_s5_take : Value}
    (a_L_s5_take : PySem.W.nsIn K mainGlobals "_law_s5_take" = some (some (.ref f_L_s5_take))) (l_L_s5_take : K.lookup f_L_s5_take = some ⟨oc_L_s5_take, od_L_s5_take, .func (PySem.W.fnOf "_law_s5_take" "_law_s5_take" (defArgs s_L_s5_take) (defBody s_L_s5_take) (defScope s_L_s5_take) .none kV_L_s5_take dc_L_s5_take pm_L_s5_take an_L_s5_take cd_L_s5_take ct_L_s5_take), sl_L_s5_take⟩) (c_L_s5_take : PySem.W.codeIn K cd_L_s5_take "_law_s5_take" = true) (k_L_s5_take : PySem.W.keepIn K (.ref f_L_s5_take) = true)
    {f_L_s5_schedules : Addr} {od_L_s5_schedules an_L_s5_schedules : Option Addr} {sl_L_s5_schedules : Array (Option Value)} {oc_L_s5_schedules kV_L_s5_schedules dc_L_s5_schedules pm_L_s5_schedules cd_L_s5_schedules ct_L_s5_schedules : Value}
    (a_L_s5_schedules : PySem.W.nsIn K mainGlobals "_law_s5_schedules" = some (some (.ref f_L_s5_schedules))) (l_L_s5_schedules : K.lookup f_L_s5_schedules = some ⟨oc_L_s5_schedules, od_L_s5_schedules, .func (PySem.W.fnOf "_law_s5_schedules" "_law_s5_schedules" (defArgs s_L_s5_schedules) (defBody s_L_s5_schedules) (defScope s_L_s5_schedules) .none kV_L_s5_schedules dc_L_s5_schedules pm_L_s5_schedules an_L_s5_schedules cd_L_s5_schedules ct_L_s5_schedules), sl_L_s5_schedules⟩) (c_L_s5_schedules : PySem.W.codeIn K cd_L_s5_schedules "_law_s5_schedules" = true) (k_L_s5_schedules : PySem.W.keepIn K (.ref f_L_s5_schedules) = true)
    {f_L_s5_profile : Addr} {od_L_s5_profile an_L_s5_profile : Option Addr} {sl_L_s5_profile : Array (Option Value)} {oc_L_s5_profile kV_L_s5_profile dc_L_s5_profile pm_L_s5_profile cd_L_s5_profile ct_L_s5_profile : Value}
    (a_L_s5_profile : PySem.W.nsIn K mainGlobals "_law_s5_profile" = some (some (.ref f_L_s5_profile))) (l_L_s5_profile : K.lookup f_L_s5_profile = some ⟨oc_L_s5_profile, od_L_s5_profile, .func (PySem.W.fnOf "_law_s5_profile" "_law_s5_profile" (defArgs s_L_s5_profile) (defBody s_L_s5_profile) (defScope s_L_s5_profile) .none kV_L_s5_profile dc_L_s5_profile pm_L_s5_profile an_L_s5_profile cd_L_s5_profile ct_L_s5_profile), sl_L_s5_profile⟩) (c_L_s5_profile : PySem.W.codeIn K cd_L_s5_profile "_law_s5_profile" = true) (k_L_s5_profile : PySem.W.keepIn K (.ref f_L_s5_profile) = true)
    {f_L_s5_policy_right : Addr} {od_L_s5_policy_right an_L_s5_policy_right : Option Addr} {sl_L_s5_policy_right : Array (Option Value)} {oc_L_s5_policy_right kV_L_s5_policy_right dc_L_s5_policy_right pm_L_s5_policy_right cd_L_s5_policy_right ct_L_s5_policy_right : Value}
    (a_L_s5_policy_right : PySem.W.nsIn K mainGlobals "_law_s5_policy_right" = some (some (.ref f_L_s5_policy_right))) (l_L_s5_policy_right : K.lookup f_L_s5_policy_right = some ⟨oc_L_s5_policy_right, od_L_s5_policy_right, .func (PySem.W.fnOf "_law_s5_policy_right" "_law_s5_policy_right" (defArgs s_L_s5_policy_right) (defBody s_L_s5_policy_right) (defScope s_L_s5_policy_right) .none kV_L_s5_policy_right dc_L_s5_policy_right pm_L_s5_policy_right an_L_s5_policy_right cd_L_s5_policy_right ct_L_s5_policy_right), sl_L_s5_policy_right⟩) (c_L_s5_policy_right : PySem.W.codeIn K cd_L_s5_policy_right "_law_s5_policy_right" = true) (k_L_s5_policy_right : PySem.W.keepIn K (.ref f_L_s5_policy_right) = true)
    {f_L_s5_others_right : Addr} {od_L_s5_others_right an_L_s5_others_right : Option Addr} {sl_L_s5_others_right : Array (Option Value)} {oc_L_s5_others_right kV_L_s5_others_right dc_L_s5_others_right pm_L_s5_others_right cd_L_s5_others_right ct_L_s5_others_right : Value}
    (a_L_s5_others_right : PySem.W.nsIn K mainGlobals "_law_s5_others_right" = some (some (.ref f_L_s5_others_right))) (l_L_s5_others_right : K.lookup f_L_s5_others_right = some ⟨oc_L_s5_others_right, od_L_s5_others_right, .func (PySem.W.fnOf "_law_s5_others_right" "_law_s5_others_right" (defArgs s_L_s5_others_right) (defBody s_L_s5_others_right) (defScope s_L_s5_others_right) .none kV_L_s5_others_right dc_L_s5_others_right pm_L_s5_others_right an_L_s5_others_right cd_L_s5_others_right ct_L_s5_others_right), sl_L_s5_others_right⟩) (c_L_s5_others_right : PySem.W.codeIn K cd_L_s5_others_right "_law_s5_others_right" = true) (k_L_s5_others_right : PySem.W.keepIn K (.ref f_L_s5_others_right) = true)
    {f_law : Addr} {od_law an_law : Option Addr} {sl_law : Array (Option Value)} {oc_law kV_law dc_law pm_law cd_law ct_law : Value}
    (a_law : PySem.W.nsIn K mainGlobals "law" = some (some (.ref f_law))) (l_law : K.lookup f_law = some ⟨oc_law, od_law, .func (PySem.W.fnOf "law" "law" (defArgs s_law) (defBody s_law) (defScope s_law) .none kV_law dc_law pm_law an_law cd_law ct_law), sl_law⟩) (c_law : PySem.W.codeIn K cd_law "law" = true) (k_law : PySem.W.keepIn K (.ref f_law) = true)
    (z_isinstance : PySem.W.nsIn K mainGlobals "isinstance" = some none)
    (z_int : PySem.W.nsIn K mainGlobals "int" = some none)
    (z_bool : PySem.W.nsIn K mainGlobals "bool" = some none)
    (z_range : PySem.W.nsIn K mainGlobals "range" = some none)
    (z_min : PySem.W.nsIn K mainGlobals "min" = some none)
    (z_len : PySem.W.nsIn K mainGlobals "len" = some none)
    (z_tuple : PySem.W.nsIn K mainGlobals "tuple" = some none)
    (z_abs : PySem.W.nsIn K mainGlobals "abs" = some none)
    (z_enumerate : PySem.W.nsIn K mainGlobals "enumerate" = some none)
    (z_max : PySem.W.nsIn K mainGlobals "max" = some none)
    (z_all : PySem.W.nsIn K mainGlobals "all" = some none)
    {t_MOST_BUDGET : Tok} (y_MOST_BUDGET : PySem.W.nsIn K mainGlobals "MOST_BUDGET" = some (some (.int (60) t_MOST_BUDGET)))
    {t_MOST_FLUSHES : Tok} (y_MOST_FLUSHES : PySem.W.nsIn K mainGlobals "MOST_FLUSHES" = some (some (.int (60) t_MOST_FLUSHES)))
    {t_MOST_POSITION : Tok} (y_MOST_POSITION : PySem.W.nsIn K mainGlobals "MOST_POSITION" = some (some (.int (1000000000000000000) t_MOST_POSITION)))
    : ∃ fd : FuncData, (∀ (s : Shared) (v : Value), BindsTo s fd ⟨[v], []⟩ [("_law_script", v)]) ∧ ∀ base : Heap, K.In base → base.Ns mainGlobals mg → FnOk l.prog w K mg base CX0 8 fa fd ["_law_script"] (sp_law K) := by
  have e := hfa.symm.trans (PySem.W.mg_of X G a_law)
  cases e
  have F_is_int := fun_mk (st := s_is_int) l_is_int c_is_int k_is_int
  have B_is_int := F_is_int.binds (ps := ["value"]) fun _ _ _ _ _ _ us hl => match us, hl with | [_], _ => rfl
  have F_is_count := fun_mk (st := s_is_count) l_is_count c_is_count k_is_count
  have B_is_count := F_is_count.binds (ps := ["value"]) fun _ _ _ _ _ _ us hl => match us, hl with | [_], _ => rfl
  have F_is_count_up_to := fun_mk (st := s_is_count_up_to) l_is_count_up_to c_is_count_up_to k_is_count_up_to
  have B_is_count_up_to := F_is_count_up_to.binds (ps := ["value", "most"]) fun _ _ _ _ _ _ us hl => match us, hl with | [_, _], _ => rfl
  have F_check_budgets := fun_mk (st := s_check_budgets) l_check_budgets c_check_budgets k_check_budgets
  have B_check_budgets := F_check_budgets.binds (ps := ["k", "c", "most"]) fun _ _ _ _ _ _ us hl => match us, hl with | [_, _, _], _ => rfl
  have F_lifetime := fun_mk (st := s_lifetime) l_lifetime c_lifetime k_lifetime
  have B_lifetime := F_lifetime.binds (ps := ["k", "c"]) fun _ _ _ _ _ _ us hl => match us, hl with | [_, _], _ => rfl
  have F_choose := fun_mk (st := s_choose) l_choose c_choose k_choose
  have B_choose := F_choose.binds (ps := ["n", "k"]) fun _ _ _ _ _ _ us hl => match us, hl with | [_, _], _ => rfl
  have F_least_writes := fun_mk (st := s_least_writes) l_least_writes c_least_writes k_least_writes
  have B_least_writes := F_least_writes.binds (ps := ["n", "k"]) fun _ _ _ _ _ _ us hl => match us, hl with | [_, _], _ => rfl
  have F_check_number := fun_mk (st := s_check_number) l_check_number c_check_number k_check_number
  have B_check_number := F_check_number.binds (ps := ["number", "most"]) fun _ _ _ _ _ _ us hl => match us, hl with | [_, _], _ => rfl
  have F_check_runs := fun_mk (st := s_check_runs) l_check_runs c_check_runs k_check_runs
  have B_check_runs := F_check_runs.binds (ps := ["k"]) fun _ _ _ _ _ _ us hl => match us, hl with | [_], _ => rfl
  have F_writes_needed := fun_mk (st := s_writes_needed) l_writes_needed c_writes_needed k_writes_needed
  have B_writes_needed := F_writes_needed.binds (ps := ["n", "k"]) fun _ _ _ _ _ _ us hl => match us, hl with | [_, _], _ => rfl
  have F_policy_merge := fun_mk (st := s_policy_merge) l_policy_merge c_policy_merge k_policy_merge
  have B_policy_merge := F_policy_merge.binds (ps := ["k", "i"]) fun _ _ _ _ _ _ us hl => match us, hl with | [_, _], _ => rfl
  have F_run_lengths := fun_mk (st := s_run_lengths) l_run_lengths c_run_lengths k_run_lengths
  have B_run_lengths := F_run_lengths.binds (ps := ["k", "n"]) fun _ _ _ _ _ _ us hl => match us, hl with | [_, _], _ => rfl
  have F_policy_runs := fun_mk (st := s_policy_runs) l_policy_runs c_policy_runs k_policy_runs
  have B_policy_runs := F_policy_runs.binds (ps := ["k", "n"]) fun _ _ _ _ _ _ us hl => match us, hl with | [_, _], _ => rfl
  have F_policy_schedule := fun_mk (st := s_policy_schedule) l_policy_schedule c_policy_schedule k_policy_schedule
  have B_policy_schedule := F_policy_schedule.binds (ps := ["k", "n"]) fun _ _ _ _ _ _ us hl => match us, hl with | [_, _], _ => rfl
  have F_L_s5_hand := fun_mk (st := s_L_s5_hand) l_L_s5_hand c_L_s5_hand k_L_s5_hand
  have B_L_s5_hand := F_L_s5_hand.binds (ps := ["_law_script", "_law_nth"]) fun _ _ _ _ _ _ us hl => match us, hl with | [_, _], _ => rfl
  have F_L_s5_take := fun_mk (st := s_L_s5_take) l_L_s5_take c_L_s5_take k_L_s5_take
  have B_L_s5_take := F_L_s5_take.binds (ps := ["_law_hand", "_law_size"]) fun _ _ _ _ _ _ us hl => match us, hl with | [_, _], _ => rfl
  have F_L_s5_schedules := fun_mk (st := s_L_s5_schedules) l_L_s5_schedules c_L_s5_schedules k_L_s5_schedules
  have B_L_s5_schedules := F_L_s5_schedules.binds (ps := ["_law_total"]) fun _ _ _ _ _ _ us hl => match us, hl with | [_], _ => rfl
  have F_L_s5_profile := fun_mk (st := s_L_s5_profile) l_L_s5_profile c_L_s5_profile k_L_s5_profile
  have B_L_s5_profile := F_L_s5_profile.binds (ps := ["_law_plan"]) fun _ _ _ _ _ _ us hl => match us, hl with | [_], _ => rfl
  have F_L_s5_policy_right := fun_mk (st := s_L_s5_policy_right) l_L_s5_policy_right c_L_s5_policy_right k_L_s5_policy_right
  have B_L_s5_policy_right := F_L_s5_policy_right.binds (ps := ["_law_room"]) fun _ _ _ _ _ _ us hl => match us, hl with | [_], _ => rfl
  have F_L_s5_others_right := fun_mk (st := s_L_s5_others_right) l_L_s5_others_right c_L_s5_others_right k_L_s5_others_right
  have B_L_s5_others_right := F_L_s5_others_right.binds (ps := ["_law_total", "_law_room"]) fun _ _ _ _ _ _ us hl => match us, hl with | [_, _], _ => rfl
  have F_law := fun_mk (st := s_law) l_law c_law k_law
  have B_law := F_law.binds (ps := ["_law_script"]) fun _ _ _ _ _ _ us hl => match us, hl with | [_], _ => rfl
  let TX : Tx K mg := ⟨_, _, F_is_int, PySem.W.mg_of X G a_is_int, B_is_int, _, _, F_is_count, PySem.W.mg_of X G a_is_count, B_is_count, _, _, F_is_count_up_to, PySem.W.mg_of X G a_is_count_up_to, B_is_count_up_to, _, _, F_check_budgets, PySem.W.mg_of X G a_check_budgets, B_check_budgets, _, _, F_lifetime, PySem.W.mg_of X G a_lifetime, B_lifetime, _, _, F_choose, PySem.W.mg_of X G a_choose, B_choose, _, _, F_least_writes, PySem.W.mg_of X G a_least_writes, B_least_writes, _, _, F_check_number, PySem.W.mg_of X G a_check_number, B_check_number, _, _, F_check_runs, PySem.W.mg_of X G a_check_runs, B_check_runs, _, _, F_writes_needed, PySem.W.mg_of X G a_writes_needed, B_writes_needed, _, _, F_policy_merge, PySem.W.mg_of X G a_policy_merge, B_policy_merge, _, _, F_run_lengths, PySem.W.mg_of X G a_run_lengths, B_run_lengths, _, _, F_policy_runs, PySem.W.mg_of X G a_policy_runs, B_policy_runs, _, _, F_policy_schedule, PySem.W.mg_of X G a_policy_schedule, B_policy_schedule, _, _, F_L_s5_hand, PySem.W.mg_of X G a_L_s5_hand, B_L_s5_hand, _, _, F_L_s5_take, PySem.W.mg_of X G a_L_s5_take, B_L_s5_take, _, _, F_L_s5_schedules, PySem.W.mg_of X G a_L_s5_schedules, B_L_s5_schedules, _, _, F_L_s5_profile, PySem.W.mg_of X G a_L_s5_profile, B_L_s5_profile, _, _, F_L_s5_policy_right, PySem.W.mg_of X G a_L_s5_policy_right, B_L_s5_policy_right, _, _, F_L_s5_others_right, PySem.W.mg_of X G a_L_s5_others_right, B_L_s5_others_right, _, _, F_law, PySem.W.mg_of X G a_law, B_law, PySem.W.mg_none_of X G z_isinstance, PySem.W.mg_none_of X G z_int, PySem.W.mg_none_of X G z_bool, PySem.W.mg_none_of X G z_range, PySem.W.mg_none_of X G z_min, PySem.W.mg_none_of X G z_len, PySem.W.mg_none_of X G z_tuple, PySem.W.mg_none_of X G z_abs, PySem.W.mg_none_of X G z_enumerate, PySem.W.mg_none_of X G z_max, PySem.W.mg_none_of X G z_all, _, PySem.W.mg_of X G y_MOST_BUDGET, _, PySem.W.mg_of X G y_MOST_FLUSHES, _, PySem.W.mg_of X G y_MOST_POSITION⟩
  exact ⟨TX.fd_law, fun s v => .of_eq rfl, fun base _ _ => ok_law TX⟩
end MB
open PySem PySem.W PyProof.Rows
set_option maxHeartbeats 0 in
theorem PySem.Challenge.cw_mergebudget_k78_whole_policies_write_lea_holds : PySem.Challenge.rw_mergebudget_k78_whole_policies_write_lea.Holds := by
  w_on; o_law; k_head; (case hw => w_witness2)
  k_fill
  refine L2.walk_of (l := PySem.Challenge.rw_mergebudget_k78_whole_policies_write_lea) (n := 63) (k := 8) (x := "_law_script") (CX := fun _ => L2.CX0) (sp := fun w => MB.sp_law _) rfl (by decide) rfl ⟨rfl, by decide, by decide⟩ (fun w h Y => PySem.W.kIn_of Y) ?F (fun _ _ a ns hl _ hS => ⟨a, ns, rfl, hS, hl, fun _ => rfl⟩) (fun _ _ _ _ _ h => h)
  case F =>
    intro w mg fa h KX G hmg
    refine' MB.all_mk KX G hmg ?a_is_int ?l_is_int ?c_is_int ?k_is_int ?a_is_count ?l_is_count ?c_is_count ?k_is_count ?a_is_count_up_to ?l_is_count_up_to ?c_is_count_up_to ?k_is_count_up_to ?a_check_budgets ?l_check_budgets ?c_check_budgets ?k_check_budgets ?a_lifetime ?l_lifetime ?c_lifetime ?k_lifetime ?a_choose ?l_choose ?c_choose ?k_choose ?a_least_writes ?l_least_writes ?c_least_writes ?k_least_writes ?a_check_number ?l_check_number ?c_check_number ?k_check_number ?a_check_runs ?l_check_runs ?c_check_runs ?k_check_runs ?a_writes_needed ?l_writes_needed ?c_writes_needed ?k_writes_needed ?a_policy_merge ?l_policy_merge ?c_policy_merge ?k_policy_merge ?a_run_lengths ?l_run_lengths ?c_run_lengths ?k_run_lengths ?a_policy_runs ?l_policy_runs ?c_policy_runs ?k_policy_runs ?a_policy_schedule ?l_policy_schedule ?c_policy_schedule ?k_policy_schedule ?a_L_s5_hand ?l_L_s5_hand ?c_L_s5_hand ?k_L_s5_hand ?a_L_s5_take ?l_L_s5_take ?c_L_s5_take ?k_L_s5_take ?a_L_s5_schedules ?l_L_s5_schedules ?c_L_s5_schedules ?k_L_s5_schedules ?a_L_s5_profile ?l_L_s5_profile ?c_L_s5_profile ?k_L_s5_profile ?a_L_s5_policy_right ?l_L_s5_policy_right ?c_L_s5_policy_right ?k_L_s5_policy_right ?a_L_s5_others_right ?l_L_s5_others_right ?c_L_s5_others_right ?k_L_s5_others_right ?a_law ?l_law ?c_law ?k_law ?z_isinstance ?z_int ?z_bool ?z_range ?z_min ?z_len ?z_tuple ?z_abs ?z_enumerate ?z_max ?z_all ?y_MOST_BUDGET ?y_MOST_FLUSHES ?y_MOST_POSITION
    (case a_is_int => k_is); (case l_is_int => k_is); (case c_is_int => k_is); (case k_is_int => k_is); (case a_is_count => k_is); (case l_is_count => k_is); (case c_is_count => k_is); (case k_is_count => k_is); (case a_is_count_up_to => k_is); (case l_is_count_up_to => k_is); (case c_is_count_up_to => k_is); (case k_is_count_up_to => k_is); (case a_check_budgets => k_is); (case l_check_budgets => k_is); (case c_check_budgets => k_is); (case k_check_budgets => k_is); (case a_lifetime => k_is); (case l_lifetime => k_is); (case c_lifetime => k_is); (case k_lifetime => k_is); (case a_choose => k_is); (case l_choose => k_is); (case c_choose => k_is); (case k_choose => k_is); (case a_least_writes => k_is); (case l_least_writes => k_is); (case c_least_writes => k_is); (case k_least_writes => k_is); (case a_check_number => k_is); (case l_check_number => k_is); (case c_check_number => k_is); (case k_check_number => k_is); (case a_check_runs => k_is); (case l_check_runs => k_is); (case c_check_runs => k_is); (case k_check_runs => k_is); (case a_writes_needed => k_is); (case l_writes_needed => k_is); (case c_writes_needed => k_is); (case k_writes_needed => k_is); (case a_policy_merge => k_is); (case l_policy_merge => k_is); (case c_policy_merge => k_is); (case k_policy_merge => k_is); (case a_run_lengths => k_is); (case l_run_lengths => k_is); (case c_run_lengths => k_is); (case k_run_lengths => k_is); (case a_policy_runs => k_is); (case l_policy_runs => k_is); (case c_policy_runs => k_is); (case k_policy_runs => k_is); (case a_policy_schedule => k_is); (case l_policy_schedule => k_is); (case c_policy_schedule => k_is); (case k_policy_schedule => k_is); (case a_L_s5_hand => k_is); (case l_L_s5_hand => k_is); (case c_L_s5_hand => k_is); (case k_L_s5_hand => k_is); (case a_L_s5_take => k_is); (case l_L_s5_take => k_is); (case c_L_s5_take => k_is); (case k_L_s5_take => k_is); (case a_L_s5_schedules => k_is); (case l_L_s5_schedules => k_is); (case c_L_s5_schedules => k_is); (case k_L_s5_schedules => k_is); (case a_L_s5_profile => k_is); (case l_L_s5_profile => k_is); (case c_L_s5_profile => k_is); (case k_L_s5_profile => k_is); (case a_L_s5_policy_right => k_is); (case l_L_s5_policy_right => k_is); (case c_L_s5_policy_right => k_is); (case k_L_s5_policy_right => k_is); (case a_L_s5_others_right => k_is); (case l_L_s5_others_right => k_is); (case c_L_s5_others_right => k_is); (case k_L_s5_others_right => k_is); (case a_law => k_is); (case l_law => k_is); (case c_law => k_is); (case k_law => k_is); (case z_isinstance => k_is); (case z_int => k_is); (case z_bool => k_is); (case z_range => k_is); (case z_min => k_is); (case z_len => k_is); (case z_tuple => k_is); (case z_abs => k_is); (case z_enumerate => k_is); (case z_max => k_is); (case z_all => k_is); (case y_MOST_BUDGET => k_is); (case y_MOST_FLUSHES => k_is); (case y_MOST_POSITION => k_is)
