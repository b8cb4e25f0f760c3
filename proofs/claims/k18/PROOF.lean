import PyProof.Rows.All
import Wide.All
import OpenK.AllK
import Wide.FinOn
import HandS.ForMost
import HandS.IsInst
import HandS.Wide
import HandS.TupAny
import HandS.TupMul
import HandS.Rev
import HandS.Style
import HandS.Strs
import HandS.Walk
import KE.GoesEnum
import PyProof.ReprRoads
import PyProof.ReprBulk
import HandS.Dict
import HandS.WideMore
import HandS.ExcInit
import HandS.ExcField
import HandS.ExcIs
import HandS.ExcValue
import KE.KExcIs
import HandS.Exc
import HandS.Lambda
import HandS.EndTab
import KE.KNestM
import HandS.WordsExc
import KE.DataFind
import HandS.SortKw
import HandS.SortInts
import KE.DataMinMax
import HandS.List
import PySem.Challenge.RW_mergebudget_k18_states_after_schedules
set_option Elab.async false
set_option linter.all false
set_option maxRecDepth 100000
namespace MB
inductive T where
  | nil
  | node (l r : T)
  deriving DecidableEq

namespace T
def size : T → Nat
  | nil => 0
  | node l r => l.size + 1 + r.size
def runs : T → Nat
  | nil => 0
  | node _ r => 1 + r.runs
def sch : T → List Nat
  | nil => []
  | node l r => l.sch ++ l.runs :: r.sch
def rc : T → List Nat
  | nil => []
  | node l r => l.rc ++ 1 :: r.rc.map (· + 1)
def wr : T → List Nat
  | nil => []
  | node l r => l.wr.map (· + 1) ++ 1 :: r.wr
/-- parents: off, the number of the first node; p, the parent of the root -/
def par (off p : Int) : T → List Int
  | nil => []
  | node l r => par off (off + l.size) l ++ p :: par (off + l.size + 1) (off + l.size) r
def mir : T → T
  | nil => nil
  | node l r => node r.mir l.mir
def push (t : T) (m : Nat) : T :=
  if m = t.runs then node t nil else match t with
    | nil => nil
    | node l r => node l (push r m)
/-- the first flush of the run that a flush that merges m writes -/
def start (t : T) (m : Nat) : Nat :=
  if m = t.runs then 0 else match t with
    | nil => 0
    | node l r => l.size + 1 + start r m
/-- the stack: intervals of the right spine -/
def stk (off : Nat) : T → List (Nat × Nat)
  | nil => []
  | node l r => (off, off + l.size + 1) :: stk (off + l.size + 1) r
def graft : T → T → T
  | nil, t => t
  | node l r, t => node l (graft r t)

theorem sch_len : ∀ t : T, t.sch.length = t.size
  | nil => rfl
  | node l r => by simp [sch, size, sch_len l, sch_len r]; omega
theorem rc_len : ∀ t : T, t.rc.length = t.size
  | nil => rfl
  | node l r => by simp [rc, size, rc_len l, rc_len r]; omega
theorem wr_len : ∀ t : T, t.wr.length = t.size
  | nil => rfl
  | node l r => by simp [wr, size, wr_len l, wr_len r]; omega
theorem par_len : ∀ (t : T) (off p : Int), (t.par off p).length = t.size
  | nil, _, _ => rfl
  | node l r, off, p => by simp [par, size, par_len l, par_len r]; omega
theorem runs_le : ∀ t : T, t.runs ≤ t.size
  | nil => Nat.le_refl _
  | node l r => by have := runs_le r; simp [runs, size]; omega
theorem sum_sch : ∀ t : T, t.sch.sum + t.runs = t.size
  | nil => rfl
  | node l r => by
    have h1 := sum_sch l; have h2 := sum_sch r
    simp [sch, runs, size, List.sum_append]; omega
theorem stk_len : ∀ (t : T) (off : Nat), (t.stk off).length = t.runs
  | nil, _ => rfl
  | node l r, off => by simp [stk, runs, stk_len r]; omega

/-! ### push -/
theorem push_eq {t : T} : t.push t.runs = node t nil := by
  unfold push; rw [if_pos rfl]
theorem push_node {l r : T} {m : Nat} (h : m ≤ r.runs) : (node l r).push m = node l (r.push m) := by
  conv => lhs; unfold push
  rw [if_neg (by simp [runs]; omega)]
theorem start_eq {t : T} : t.start t.runs = 0 := by
  unfold start; rw [if_pos rfl]
theorem start_node {l r : T} {m : Nat} (h : m ≤ r.runs) : (node l r).start m = l.size + 1 + r.start m := by
  conv => lhs; unfold start
  rw [if_neg (by simp [runs]; omega)]
/-- the two ways of a push -/
theorem push_ind {C : T → Nat → Prop} (h1 : ∀ t, C t t.runs) (h2 : ∀ l r m, m ≤ r.runs → C r m → C (node l r) m) : ∀ (t : T) (m : Nat), m ≤ t.runs → C t m
  | nil, m, h => by
    have : m = nil.runs := by simp [runs] at h ⊢; omega
    rw [this]; exact h1 nil
  | node l r, m, h => by
    by_cases e : m = (node l r).runs
    · rw [e]; exact h1 _
    · have hm : m ≤ r.runs := by simp [runs] at h e; omega
      exact h2 l r m hm (push_ind h1 h2 r m hm)
theorem push_sch : ∀ (t : T) (m : Nat), m ≤ t.runs → (t.push m).sch = t.sch ++ [m] :=
  push_ind (fun t => by rw [push_eq]; simp [sch]) fun l r m h ih => by rw [push_node h]; simp [sch, ih]
theorem push_size : ∀ (t : T) (m : Nat), m ≤ t.runs → (t.push m).size = t.size + 1 :=
  push_ind (fun t => by rw [push_eq]; simp [size]) fun l r m h ih => by rw [push_node h]; simp [size, ih]; omega
theorem push_runs : ∀ (t : T) (m : Nat), m ≤ t.runs → (t.push m).runs = t.runs - m + 1 :=
  push_ind (fun t => by rw [push_eq]; simp [runs]) fun l r m h ih => by rw [push_node h]; simp [runs, ih]; omega
theorem push_rc : ∀ (t : T) (m : Nat), m ≤ t.runs → (t.push m).rc = t.rc ++ [t.runs - m + 1] :=
  push_ind (fun t => by rw [push_eq]; simp [rc]) fun l r m h ih => by
    rw [push_node h]; simp [rc, ih, runs]; omega
theorem start_le : ∀ (t : T) (m : Nat), m ≤ t.runs → t.start m ≤ t.size :=
  push_ind (fun t => by rw [start_eq]; omega) fun l r m h ih => by rw [start_node h]; simp [size]; omega
theorem push_wr : ∀ (t : T) (m : Nat), m ≤ t.runs → (t.push m).wr = t.wr.take (t.start m) ++ ((t.wr.drop (t.start m)).map (· + 1) ++ [1]) :=
  push_ind (fun t => by rw [push_eq, start_eq]; simp [wr]) fun l r m h ih => by
    rw [push_node h, start_node h]
    have e : (wr (node l r)) = (l.wr.map (· + 1) ++ [1]) ++ r.wr := by simp [wr]
    have el : (l.wr.map (· + 1) ++ [1]).length = l.size + 1 := by simp [wr_len]
    rw [e, List.take_append, List.drop_append, el]
    rw [List.take_of_length_le (by rw [el]; omega), List.drop_eq_nil_of_le (by rw [el]; omega)]
    rw [show l.size + 1 + r.start m - (l.size + 1) = r.start m by omega]
    simp [wr, ih]
theorem stk_push : ∀ (t : T) (m : Nat), m ≤ t.runs → ∀ off, (t.push m).stk off = (t.stk off).take (t.runs - m) ++ [(off + t.start m, off + t.size + 1)] :=
  push_ind (fun t off => by rw [push_eq, start_eq]; simp [stk]) fun l r m h ih off => by
    rw [push_node h, start_node h]
    have hh : (node l r).runs - m = (r.runs - m) + 1 := by simp [runs]; omega
    rw [hh]
    simp [stk, ih, size]
    omega
theorem stk_at : ∀ (t : T) (m : Nat), m ≤ t.runs → ∀ off, 0 < m → ∃ e, (t.stk off)[t.runs - m]? = some (off + t.start m, e) :=
  push_ind (fun t off h => by
      rw [start_eq, Nat.sub_self]
      cases t with
      | nil => simp [runs] at h
      | node l r => exact ⟨_, rfl⟩) fun l r m h ih off h0 => by
    rw [start_node h]
    have hh : (node l r).runs - m = (r.runs - m) + 1 := by simp [runs]; omega
    rw [hh]
    obtain ⟨e, he⟩ := ih (off + l.size + 1) h0
    refine ⟨e, ?_⟩
    simp only [stk, List.getElem?_cons_succ, he]
    congr 2; omega
theorem start_zero : ∀ (t : T) (m : Nat), m ≤ t.runs → m = 0 → t.start m = t.size :=
  push_ind (fun t h => by
      rw [start_eq]
      cases t with
      | nil => rfl
      | node l r => simp [runs] at h) fun l r m h ih h0 => by
    rw [start_node h, ih h0]; simp [size]

/-! ### schedules and trees -/
theorem graft_nil : ∀ t : T, t.graft nil = t
  | nil => rfl
  | node l r => by simp [graft, graft_nil r]
theorem graft_assoc : ∀ a b c : T, (a.graft b).graft c = a.graft (b.graft c)
  | nil, _, _ => rfl
  | node l r, b, c => by simp [graft, graft_assoc r b c]
theorem graft_runs : ∀ a b : T, (a.graft b).runs = a.runs + b.runs
  | nil, b => by simp [graft, runs]
  | node l r, b => by simp [graft, runs, graft_runs r b]; omega
theorem graft_push : ∀ (u l : T), (u.graft l).push l.runs = u.graft (node l nil)
  | nil, l => by simp [graft, push_eq]
  | node a b, l => by
    simp only [graft]
    rw [push_node (by rw [graft_runs]; omega), graft_push b l]
theorem foldl_sch : ∀ (t u : T), t.sch.foldl push u = u.graft t
  | nil, u => by simp [sch, graft_nil]
  | node l r, u => by
    simp only [sch, List.foldl_append, List.foldl_cons]
    rw [foldl_sch l u, graft_push, foldl_sch r, graft_assoc]
    rfl
theorem sch_inj {a b : T} (h : a.sch = b.sch) : a = b := by
  have e1 := foldl_sch a nil
  have e2 := foldl_sch b nil
  rw [h, e2] at e1
  exact e1.symm
end T

/-- a schedule that begins with `runs` runs -/
def Ok : Nat → List Nat → Prop
  | _, [] => True
  | k, m :: r => m ≤ k ∧ Ok (k - m + 1) r
theorem ok_tree : ∀ (p : List Nat) (u : T), Ok u.runs p → ∃ t : T, t.sch = u.sch ++ p ∧ p.foldl T.push u = t
  | [], u, _ => ⟨u, by simp, rfl⟩
  | m :: r, u, h => by
    obtain ⟨h1, h2⟩ := h
    rw [← T.push_runs u m h1] at h2
    obtain ⟨t, e1, e2⟩ := ok_tree r (u.push m) h2
    exact ⟨t, by rw [e1, T.push_sch u m h1]; simp, e2⟩
theorem tree_ex {p : List Nat} (h : Ok 0 p) : ∃ t : T, t.sch = p := by
  obtain ⟨t, e, _⟩ := ok_tree p .nil h
  exact ⟨t, by rw [e]; rfl⟩
theorem ok_app : ∀ (p q : List Nat) (k k' : Nat), Ok k p → k' + p.sum = k + p.length → Ok k' q → Ok k (p ++ q)
  | [], q, k, k', _, e, h => by
    have : k' = k := by simpa using e
    subst this; exact h
  | m :: r, q, k, k', h, e, hq => ⟨h.1, ok_app r q (k - m + 1) k' h.2 (by have := h.1; simp at e; omega) hq⟩
theorem ok_sch_from : ∀ (t : T) (k : Nat), Ok k t.sch
  | .nil, _ => trivial
  | .node l r, k => by
    refine ok_app l.sch _ k (k + l.runs) (ok_sch_from l k) (by have := T.sum_sch l; rw [T.sch_len]; omega) ?_
    exact ⟨by omega, ok_sch_from r _⟩
theorem ok_take : ∀ (p : List Nat) (k i : Nat), Ok k p → Ok k (p.take i)
  | [], _, i, _ => by cases i <;> trivial
  | m :: r, k, 0, _ => trivial
  | m :: r, k, i + 1, h => ⟨h.1, ok_take r _ i h.2⟩
/-- the tree of the first i flushes -/
def pre (t : T) (i : Nat) : T := (t.sch.take i).foldl T.push .nil
theorem pre_sch (t : T) (i : Nat) : (pre t i).sch = t.sch.take i := by
  obtain ⟨u, e1, e2⟩ := ok_tree (t.sch.take i) .nil (ok_take _ _ i (ok_sch_from t _))
  unfold pre; rw [e2, e1]; rfl
theorem pre_size {t : T} {i : Nat} (h : i ≤ t.size) : (pre t i).size = i := by
  rw [← T.sch_len, pre_sch, List.length_take, T.sch_len]; omega
theorem pre_zero (t : T) : pre t 0 = .nil := rfl
theorem pre_all (t : T) : pre t t.size = t := T.sch_inj (by rw [pre_sch, List.take_of_length_le (by rw [T.sch_len]; exact Nat.le_refl _)])
theorem ok_last : ∀ (p : List Nat) (k m : Nat) (q : List Nat), Ok k (p ++ m :: q) → m + p.sum ≤ k + p.length
  | [], k, m, q, h => by simpa using h.1
  | a :: r, k, m, q, h => by
    have := ok_last r (k - a + 1) m q h.2
    have h1 := h.1
    simp; omega
theorem pre_succ {t : T} {i : Nat} {m : Nat} (h : t.sch[i]? = some m) : pre t (i + 1) = (pre t i).push m ∧ m ≤ (pre t i).runs := by
  have hi : i < t.sch.length := (List.getElem?_eq_some_iff.mp h).1
  constructor
  · unfold pre
    rw [List.take_add_one, h]
    simp
  · have e : t.sch = t.sch.take i ++ m :: t.sch.drop (i + 1) := by
      have h2 := List.getElem?_eq_some_iff.mp h
      obtain ⟨h3, h4⟩ := h2
      rw [← h4]
      simp
    have h1 := ok_sch_from t 0
    rw [e] at h1
    have h2 := ok_last _ _ _ _ h1
    have h3 := T.sum_sch (pre t i)
    rw [pre_sch] at h3
    have h4 : (pre t i).size = (t.sch.take i).length := by rw [← T.sch_len, pre_sch]
    omega
theorem rc_take : ∀ (t : T) (i : Nat), (pre t i).rc = t.rc.take i := by
  intro t i
  by_cases hi : i ≤ t.size
  · suffices h : ∀ k, i + k = t.size → (pre t i).rc = t.rc.take i from h (t.size - i) (by omega)
    intro k
    induction k generalizing i with
    | zero =>
      intro e
      rw [show i = t.size by omega, pre_all, List.take_of_length_le (by rw [T.rc_len]; omega)]
    | succ k ih =>
      intro e
      have hl : i < t.sch.length := by rw [T.sch_len]; omega
      obtain ⟨e1, h1⟩ := pre_succ (List.getElem?_eq_getElem hl)
      have h2 := ih (i + 1) (by omega) (by omega)
      rw [e1, T.push_rc _ _ h1] at h2
      have h3 := congrArg (List.take i) h2
      rw [List.take_append_of_le_length (by rw [T.rc_len, pre_size (by omega)]; omega), List.take_take, List.take_of_length_le (by rw [T.rc_len, pre_size (by omega)]; omega)] at h3
      rw [h3]; congr 1; omega
  · have e : t.sch.take i = t.sch := List.take_of_length_le (by rw [T.sch_len]; omega)
    have : pre t i = t := T.sch_inj (by rw [pre_sch, e])
    rw [this, List.take_of_length_le (by rw [T.rc_len]; omega)]
theorem rc_at {t : T} {i m : Nat} (h : t.sch[i]? = some m) : t.rc[i]? = some ((pre t i).runs - m + 1) := by
  obtain ⟨e1, h1⟩ := pre_succ h
  have hi : i < t.size := by rw [← T.sch_len]; exact (List.getElem?_eq_some_iff.mp h).1
  have h2 := rc_take t (i + 1)
  rw [e1, T.push_rc _ _ h1] at h2
  have h3 := congrArg (fun l : List Nat => l[i]?) h2
  simp only [List.getElem?_take] at h3
  rw [List.getElem?_append_right (by rw [T.rc_len, pre_size (by omega)]; omega), T.rc_len, pre_size (by omega)] at h3
  simp at h3
  exact h3.symm
theorem pre_runs {t : T} {i : Nat} (h : i < t.size) : t.rc[i]? = some (pre t (i + 1)).runs := by
  have hl : i < t.sch.length := by rw [T.sch_len]; exact h
  obtain ⟨e1, h1⟩ := pre_succ (List.getElem?_eq_getElem hl)
  rw [rc_at (List.getElem?_eq_getElem hl), e1, T.push_runs _ _ h1]
/-! ### write counts by place -/
theorem wr_step {t : T} {m : Nat} (h : m ≤ t.runs) (k : Nat) : ((t.push m).wr.getD k 0) = if t.start m ≤ k ∧ k < t.size + 1 then t.wr.getD k 0 + 1 else t.wr.getD k 0 := by
  have hs := T.start_le t m h
  have hl := T.wr_len t
  rw [T.push_wr t m h]
  simp only [List.getD_eq_getElem?_getD]
  by_cases h1 : k < t.start m
  · rw [List.getElem?_append_left (by rw [List.length_take]; omega), List.getElem?_take, if_pos h1, if_neg (by omega)]
  · have e : (t.wr.take (t.start m)).length = t.start m := by rw [List.length_take]; omega
    rw [List.getElem?_append_right (by omega), e]
    by_cases h2 : k < t.size
    · rw [List.getElem?_append_left (by rw [List.length_map, List.length_drop]; omega), List.getElem?_map, List.getElem?_drop, if_pos (by omega), show t.start m + (k - t.start m) = k by omega]
      rw [List.getElem?_eq_getElem (by omega)]
      rfl
    · by_cases h3 : k = t.size
      · have e2 : ((t.wr.drop (t.start m)).map (· + 1)).length = k - t.start m := by rw [List.length_map, List.length_drop]; omega
        rw [List.getElem?_append_right (by omega), e2, Nat.sub_self, if_pos (by omega), List.getElem?_eq_none (by omega : t.wr.length ≤ k)]
        rfl
      · rw [List.getElem?_eq_none (by simp; omega), if_neg (by omega), List.getElem?_eq_none (by omega : t.wr.length ≤ k)]
theorem list_by {c d : List Nat} (hl : c.length = d.length) (h : ∀ k, k < c.length → c[k]? = some (d.getD k 0)) : c = d := by
  refine List.ext_getElem? fun k => ?_
  by_cases hk : k < c.length
  · rw [h k hk, List.getD_eq_getElem?_getD, List.getElem?_eq_getElem (by omega)]
    rfl
  · rw [List.getElem?_eq_none (by omega), List.getElem?_eq_none (by omega)]
theorem stk_last {t : T} {i m : Nat} (h : t.sch[i]? = some m) : (pre t (i + 1)).stk 0 = ((pre t i).stk 0).take ((pre t i).runs - m) ++ [((pre t i).start m, i + 1)] := by
  obtain ⟨e, h1⟩ := pre_succ h
  have hi : i < t.size := by rw [← T.sch_len]; exact (List.getElem?_eq_some_iff.mp h).1
  rw [e, T.stk_push _ _ h1, Nat.zero_add, Nat.zero_add, pre_size (by omega)]

/-! ### subtrees -/
inductive Sub (t : T) : Nat → T → Nat → Int → Prop
  | root : Sub t 0 t 1 (-1)
  | left {off k : Nat} {p : Int} {l r : T} : Sub t off (.node l r) k p → Sub t off l k ((off + l.size : Nat) : Int)
  | right {off k : Nat} {p : Int} {l r : T} : Sub t off (.node l r) k p → Sub t (off + l.size + 1) r (k + 1) ((off + l.size : Nat) : Int)
def T.parOf (t : T) : List Int := t.par 0 (-1)
theorem slice_left {α : Type} {L a b : List α} {x : α} {off : Nat} (h : (L.drop off).take (a.length + 1 + b.length) = a ++ x :: b) : (L.drop off).take a.length = a := by
  have := congrArg (List.take a.length) h
  rw [List.take_take, List.take_left' rfl, show min a.length (a.length + 1 + b.length) = a.length by omega] at this
  exact this
theorem slice_mid {α : Type} {L a b : List α} {x : α} {off : Nat} (h : (L.drop off).take (a.length + 1 + b.length) = a ++ x :: b) : L[off + a.length]? = some x := by
  have := congrArg (fun l : List α => l[a.length]?) h
  simp only [List.getElem?_take, List.getElem?_drop] at this
  rw [if_pos (by omega), List.getElem?_append_right (Nat.le_refl _), Nat.sub_self] at this
  simpa using this
theorem slice_right {α : Type} {L a b : List α} {x : α} {off : Nat} (h : (L.drop off).take (a.length + 1 + b.length) = a ++ x :: b) : (L.drop (off + a.length + 1)).take b.length = b := by
  have := congrArg (List.drop (a.length + 1)) h
  rw [List.drop_take, List.drop_drop] at this
  have e2 : List.drop (a.length + 1) (a ++ x :: b) = b := by
    rw [List.drop_append]; simp
  rw [e2] at this
  have h2 := congrArg (List.take b.length) this
  rw [List.take_take, List.take_length] at h2
  rw [← Nat.add_assoc] at h2
  rw [show b.length = min b.length (a.length + 1 + b.length - (a.length + 1)) by omega]
  exact h2
theorem sub_le {t : T} {off k : Nat} {s : T} {p : Int} (h : Sub t off s k p) : off + s.size ≤ t.size ∧ 1 ≤ k ∧ k ≤ off + 1 := by
  induction h with
  | root => exact ⟨by omega, by omega, by omega⟩
  | left _ ih => simp only [T.size] at ih; omega
  | right _ ih => simp only [T.size] at ih; omega
theorem sub_out {t : T} {off k : Nat} {s : T} {p : Int} (h : Sub t off s k p) : (p = -1 ∨ ((0 ≤ p ∧ p < t.size) ∧ (p + 1 = off ∨ p = ((off + s.size : Nat) : Int)))) := by
  cases h with
  | root => exact .inl rfl
  | left h => have := sub_le h; simp only [T.size] at this; exact .inr ⟨by omega, .inr rfl⟩
  | right h => have := sub_le h; simp only [T.size] at this; exact .inr ⟨by omega, .inl (by omega)⟩
theorem sub_rc {t : T} {off k : Nat} {s : T} {p : Int} (h : Sub t off s k p) : (t.rc.drop off).take s.size = s.rc.map (· + (k - 1)) := by
  induction h with
  | root => simp [← T.rc_len]
  | @left off k p l r h ih =>
    have e : (T.node l r).rc.map (· + (k - 1)) = l.rc.map (· + (k - 1)) ++ (1 + (k - 1)) :: (r.rc.map (· + 1)).map (· + (k - 1)) := by simp [T.rc]
    rw [e] at ih
    have hl : (l.rc.map (· + (k - 1))).length = l.size := by rw [List.length_map, T.rc_len]
    have hr : ((r.rc.map (· + 1)).map (· + (k - 1))).length = r.size := by rw [List.length_map, List.length_map, T.rc_len]
    have := slice_left (a := l.rc.map (· + (k - 1))) (b := (r.rc.map (· + 1)).map (· + (k - 1))) (L := t.rc) (off := off) (x := 1 + (k - 1)) (by rw [hl, hr]; exact ih)
    rw [hl] at this
    exact this
  | @right off k p l r h ih =>
    have e : (T.node l r).rc.map (· + (k - 1)) = l.rc.map (· + (k - 1)) ++ (1 + (k - 1)) :: (r.rc.map (· + 1)).map (· + (k - 1)) := by simp [T.rc]
    rw [e] at ih
    have hl : (l.rc.map (· + (k - 1))).length = l.size := by rw [List.length_map, T.rc_len]
    have hr : ((r.rc.map (· + 1)).map (· + (k - 1))).length = r.size := by rw [List.length_map, List.length_map, T.rc_len]
    have := slice_right (a := l.rc.map (· + (k - 1))) (b := (r.rc.map (· + 1)).map (· + (k - 1))) (L := t.rc) (off := off) (x := 1 + (k - 1)) (by rw [hl, hr]; exact ih)
    rw [hl, hr] at this
    rw [this, List.map_map]
    refine List.map_congr_left fun a _ => ?_
    have := (sub_le h).2.1
    simp only [Function.comp]
    omega
theorem sub_par {t : T} {off k : Nat} {s : T} {p : Int} (h : Sub t off s k p) : (t.parOf.drop off).take s.size = s.par (off : Int) p := by
  induction h with
  | root => simp only [T.parOf]; rw [List.drop_zero, List.take_of_length_le (by rw [T.par_len]; omega)]; rfl
  | @left off k p l r h ih =>
    simp only [T.par] at ih
    have hl := T.par_len l (off : Int) ((off : Int) + l.size)
    have hr := T.par_len r ((off : Int) + l.size + 1) ((off : Int) + l.size)
    have := slice_left (a := l.par (off : Int) ((off : Int) + l.size)) (b := r.par ((off : Int) + l.size + 1) ((off : Int) + l.size)) (L := t.parOf) (off := off) (x := p) (by rw [hl, hr]; exact ih)
    rw [hl] at this
    rw [this, Int.natCast_add]
  | @right off k p l r h ih =>
    simp only [T.par] at ih
    have hl := T.par_len l (off : Int) ((off : Int) + l.size)
    have hr := T.par_len r ((off : Int) + l.size + 1) ((off : Int) + l.size)
    have := slice_right (a := l.par (off : Int) ((off : Int) + l.size)) (b := r.par ((off : Int) + l.size + 1) ((off : Int) + l.size)) (L := t.parOf) (off := off) (x := p) (by rw [hl, hr]; exact ih)
    rw [hl, hr] at this
    rw [this]
    simp only [Int.natCast_add]
    rfl
theorem sub_root {t : T} {off k : Nat} {l r : T} {p : Int} (h : Sub t off (.node l r) k p) : t.parOf[off + l.size]? = some p := by
  have ih := sub_par h
  simp only [T.par] at ih
  have hl := T.par_len l (off : Int) ((off : Int) + l.size)
  have hr := T.par_len r ((off : Int) + l.size + 1) ((off : Int) + l.size)
  have := slice_mid (a := l.par (off : Int) ((off : Int) + l.size)) (b := r.par ((off : Int) + l.size + 1) ((off : Int) + l.size)) (L := t.parOf) (off := off) (x := p) (by rw [hl, hr]; exact ih)
  rw [hl] at this
  exact this
/-- the parents of a subtree: the root's alone lies outside -/
theorem par_in : ∀ (s : T) (off p : Int) (i : Nat) (q : Int), (s.par off p)[i]? = some q → (∃ l r, s = .node l r ∧ i = l.size ∧ q = p) ∨ (off ≤ q ∧ q < off + s.size ∧ ∀ l r, s = .node l r → i ≠ l.size)
  | .nil, _, _, _, _, h => by simp [T.par] at h
  | .node l r, off, p, i, q, h => by
    simp only [T.par] at h
    have hl := T.par_len l off (off + l.size)
    by_cases h1 : i < l.size
    · rw [List.getElem?_append_left (by omega)] at h
      refine .inr ?_
      rcases par_in l off (off + l.size) i q h with ⟨a, b, e, e2, e3⟩ | ⟨h2, h3, _⟩
      · refine ⟨by omega, by simp only [T.size]; omega, fun l' r' e' => by cases e'; omega⟩
      · refine ⟨by omega, by simp only [T.size]; omega, fun l' r' e' => by cases e'; omega⟩
    · rw [List.getElem?_append_right (by omega), hl] at h
      by_cases h2 : i = l.size
      · subst h2
        rw [Nat.sub_self] at h
        have : p = q := by simpa using h
        exact .inl ⟨l, r, rfl, rfl, this.symm⟩
      · obtain ⟨j, e⟩ : ∃ j, i - l.size = j + 1 := ⟨i - l.size - 1, by omega⟩
        rw [e, List.getElem?_cons_succ] at h
        refine .inr ?_
        rcases par_in r (off + l.size + 1) (off + l.size) j q h with ⟨a, b, e4, e2, e3⟩ | ⟨h4, h3, _⟩
        · refine ⟨by omega, by simp only [T.size]; omega, fun l' r' e' => by cases e'; omega⟩
        · refine ⟨by omega, by simp only [T.size]; omega, fun l' r' e' => by cases e'; omega⟩
theorem rc_pos : ∀ (s : T) (i v : Nat), s.rc[i]? = some v → 1 ≤ v
  | .nil, _, _, h => by simp [T.rc] at h
  | .node l r, i, v, h => by
    simp only [T.rc] at h
    by_cases h1 : i < l.size
    · rw [List.getElem?_append_left (by rw [T.rc_len]; exact h1)] at h
      exact rc_pos l i v h
    · rw [List.getElem?_append_right (by rw [T.rc_len]; omega), T.rc_len] at h
      rcases Nat.eq_zero_or_pos (i - l.size) with e | e
      · rw [e] at h; simp at h; omega
      · obtain ⟨j, e⟩ : ∃ j, i - l.size = j + 1 := ⟨i - l.size - 1, by omega⟩
        rw [e, List.getElem?_cons_succ, List.getElem?_map] at h
        cases h2 : r.rc[j]? with
        | none => rw [h2] at h; cases h
        | some u => rw [h2] at h; simp at h; omega
theorem rc_one {l r : T} {i : Nat} (h : (T.node l r).rc[i]? = some 1) : i ≤ l.size := by
  simp only [T.rc] at h
  by_cases h1 : i ≤ l.size
  · exact h1
  · rw [List.getElem?_append_right (by rw [T.rc_len]; omega), T.rc_len] at h
    obtain ⟨j, e⟩ : ∃ j, i - l.size = j + 1 := ⟨i - l.size - 1, by omega⟩
    rw [e, List.getElem?_cons_succ, List.getElem?_map] at h
    cases h2 : r.rc[j]? with
    | none => rw [h2] at h; cases h
    | some u =>
      have := rc_pos r j u h2
      rw [h2] at h; simp at h; omega
theorem rc_root (l r : T) : (T.node l r).rc[l.size]? = some 1 := by
  simp only [T.rc]
  rw [List.getElem?_append_right (by rw [T.rc_len]; exact Nat.le_refl _), T.rc_len, Nat.sub_self]; rfl
theorem sub_rc_at {t : T} {off k : Nat} {s : T} {p : Int} (h : Sub t off s k p) {i : Nat} (hi : i < s.size) : ∃ v, s.rc[i]? = some v ∧ t.rc[off + i]? = some (v + (k - 1)) := by
  have e := congrArg (fun l : List Nat => l[i]?) (sub_rc h)
  simp only [List.getElem?_take, List.getElem?_drop, List.getElem?_map] at e
  rw [if_pos hi] at e
  have hv := List.getElem?_eq_getElem (show i < s.rc.length by rw [T.rc_len]; exact hi)
  rw [hv] at e
  exact ⟨_, hv, e⟩
theorem sub_par_at {t : T} {off k : Nat} {s : T} {p : Int} (h : Sub t off s k p) {i : Nat} (hi : i < s.size) : ∃ q, (s.par (off : Int) p)[i]? = some q ∧ t.parOf[off + i]? = some q := by
  have e := congrArg (fun l : List Int => l[i]?) (sub_par h)
  simp only [List.getElem?_take, List.getElem?_drop] at e
  rw [if_pos hi] at e
  have hv := List.getElem?_eq_getElem (show i < (s.par (off : Int) p).length by rw [T.par_len]; exact hi)
  rw [hv] at e
  exact ⟨_, hv, e⟩
theorem filter_one {f : Nat → Bool} {n c : Nat} (hc : c < n) (h1 : f c = true) (h2 : ∀ i, i < n → f i = true → i = c) : (List.range n).filter f = [c] := by
  induction n with
  | zero => omega
  | succ n ih =>
    rw [List.range_succ, List.filter_append]
    by_cases e : c = n
    · subst e
      have e0 : (List.range c).filter f = [] := List.filter_eq_nil_iff.mpr fun i hi hf => by
        have := List.mem_range.mp hi
        have := h2 i (by omega) hf
        omega
      rw [e0]; simp [h1]
    · rw [ih (by omega) fun i hi hf => h2 i (by omega) hf]
      have : f n = false := by
        cases hf : f n with
        | false => rfl
        | true => exact absurd (h2 n (by omega) hf) (by omega)
      simp [this]
/-- the work of a list of subtrees -/
def todo : List (Nat × T × Nat × Int) → Nat
  | [] => 0
  | x :: r => 2 * x.2.1.size + 1 + todo r
theorem todo_app : ∀ a b, todo (a ++ b) = todo a + todo b
  | [], b => by simp [todo]
  | x :: r, b => by simp [todo, todo_app r b]; omega
theorem len_todo : ∀ L, L.length ≤ todo L
  | [] => Nat.le_refl _
  | x :: r => by have := len_todo r; simp [todo]; omega

/-! ### one step up -/
theorem getD_app_l {a b : List Nat} {i : Nat} (h : i < a.length) : (a ++ b).getD i 0 = a.getD i 0 := by
  simp only [List.getD_eq_getElem?_getD, List.getElem?_append_left h]
theorem getD_app_r {a b : List Nat} {i : Nat} (h : a.length ≤ i) : (a ++ b).getD i 0 = b.getD (i - a.length) 0 := by
  simp only [List.getD_eq_getElem?_getD, List.getElem?_append_right h]
theorem getD_map1 {a : List Nat} {i : Nat} (h : i < a.length) : (a.map (· + 1)).getD i 0 = a.getD i 0 + 1 := by
  simp only [List.getD_eq_getElem?_getD, List.getElem?_map, List.getElem?_eq_getElem h]; rfl
theorem wr_l {l r : T} {i : Nat} (h : i < l.size) : (T.node l r).wr.getD i 0 = l.wr.getD i 0 + 1 := by
  simp only [T.wr]
  rw [getD_app_l (by rw [List.length_map, T.wr_len]; exact h), getD_map1 (by rw [T.wr_len]; exact h)]
theorem wr_m {l r : T} : (T.node l r).wr.getD l.size 0 = 1 := by
  simp only [T.wr]
  rw [getD_app_r (by rw [List.length_map, T.wr_len]; exact Nat.le_refl _), List.length_map, T.wr_len, Nat.sub_self]; rfl
theorem wr_r {l r : T} {j : Nat} : (T.node l r).wr.getD (l.size + 1 + j) 0 = r.wr.getD j 0 := by
  simp only [T.wr]
  rw [getD_app_r (by rw [List.length_map, T.wr_len]; omega), List.length_map, T.wr_len, show l.size + 1 + j - l.size = j + 1 by omega, List.getD_cons_succ]
theorem rc_l {l r : T} {i : Nat} (h : i < l.size) : (T.node l r).rc.getD i 0 = l.rc.getD i 0 := by
  simp only [T.rc]
  rw [getD_app_l (by rw [T.rc_len]; exact h)]
theorem rc_m {l r : T} : (T.node l r).rc.getD l.size 0 = 1 := by
  simp only [T.rc]
  rw [getD_app_r (by rw [T.rc_len]; exact Nat.le_refl _), T.rc_len, Nat.sub_self]; rfl
theorem rc_r {l r : T} {j : Nat} (h : j < r.size) : (T.node l r).rc.getD (l.size + 1 + j) 0 = r.rc.getD j 0 + 1 := by
  simp only [T.rc]
  rw [getD_app_r (by rw [T.rc_len]; omega), T.rc_len, show l.size + 1 + j - l.size = j + 1 by omega, List.getD_cons_succ, getD_map1 (by rw [T.rc_len]; exact h)]
theorem up : ∀ (s : T) (off p : Int) (i : Nat) (q : Int), (s.par off p)[i]? = some q →
    (q = p ∧ s.wr.getD i 0 = 1 ∧ s.rc.getD i 0 = 1) ∨
    ∃ j : Nat, q = off + j ∧ j < s.size ∧ j ≠ i ∧ (i < j → s.wr.getD i 0 = s.wr.getD j 0 + 1 ∧ s.rc.getD i 0 = s.rc.getD j 0) ∧ (j < i → s.wr.getD i 0 = s.wr.getD j 0 ∧ s.rc.getD i 0 = s.rc.getD j 0 + 1)
  | .nil, _, _, _, _, h => by simp [T.par] at h
  | .node l r, off, p, i, q, h => by
    simp only [T.par] at h
    have hl := T.par_len l off (off + l.size)
    by_cases h1 : i < l.size
    · rw [List.getElem?_append_left (by omega)] at h
      refine .inr ?_
      rcases up l off (off + l.size) i q h with ⟨e, e1, e2⟩ | ⟨j, e, hj, hne, c1, c2⟩
      · exact ⟨l.size, e, by simp only [T.size]; omega, by omega, fun _ => ⟨by rw [wr_l h1, wr_m, e1], by rw [rc_l h1, rc_m, e2]⟩, fun z => by omega⟩
      · exact ⟨j, e, by simp only [T.size]; omega, hne, fun z => ⟨by rw [wr_l h1, wr_l hj, (c1 z).1], by rw [rc_l h1, rc_l hj, (c1 z).2]⟩, fun z => ⟨by rw [wr_l h1, wr_l hj, (c2 z).1], by rw [rc_l h1, rc_l hj, (c2 z).2]⟩⟩
    · rw [List.getElem?_append_right (by omega), hl] at h
      by_cases h2 : i = l.size
      · subst h2
        rw [Nat.sub_self] at h
        have : p = q := by simpa using h
        exact .inl ⟨this.symm, wr_m, rc_m⟩
      · obtain ⟨k, e⟩ : ∃ k, i = l.size + 1 + k := ⟨i - l.size - 1, by omega⟩
        subst e
        rw [show l.size + 1 + k - l.size = k + 1 by omega, List.getElem?_cons_succ] at h
        have hk : k < r.size := by
          have := (List.getElem?_eq_some_iff.mp h).1
          rw [T.par_len] at this; exact this
        refine .inr ?_
        rcases up r (off + l.size + 1) (off + l.size) k q h with ⟨e, e1, e2⟩ | ⟨j, e, hj, hne, c1, c2⟩
        · exact ⟨l.size, e, by simp only [T.size]; omega, by omega, fun z => by omega, fun _ => ⟨by rw [wr_r, wr_m, e1], by rw [rc_r hk, rc_m, e2]⟩⟩
        · exact ⟨l.size + 1 + j, by rw [e]; omega, by simp only [T.size]; omega, by omega, fun z => ⟨by rw [wr_r, wr_r, (c1 (by omega)).1], by rw [rc_r hk, rc_r hj, (c1 (by omega)).2]⟩, fun z => ⟨by rw [wr_r, wr_r, (c2 (by omega)).1], by rw [rc_r hk, rc_r hj, (c2 (by omega)).2]⟩⟩
theorem wr_pos {t : T} {i : Nat} (h : i < t.size) : 1 ≤ t.wr.getD i 0 := by
  induction t generalizing i with
  | nil => simp [T.size] at h
  | node l r ihl ihr =>
    by_cases h1 : i < l.size
    · rw [wr_l h1]; omega
    · by_cases h2 : i = l.size
      · subst h2; rw [wr_m]; exact Nat.le_refl _
      · obtain ⟨k, e⟩ : ∃ k, i = l.size + 1 + k := ⟨i - l.size - 1, by omega⟩
        subst e
        rw [wr_r]; exact ihr (by simp only [T.size] at h; omega)
theorem rc_posD {t : T} {i : Nat} (h : i < t.size) : 1 ≤ t.rc.getD i 0 := by
  have := List.getElem?_eq_getElem (show i < t.rc.length by rw [T.rc_len]; exact h)
  rw [List.getD_eq_getElem?_getD, this]
  exact rc_pos t i _ this

/-! ### mirrors -/
def mirN (N : Int) (q : Int) : Int := if q = -1 then -1 else N - 1 - q
theorem mir_size : ∀ t : T, t.mir.size = t.size
  | .nil => rfl
  | .node l r => by simp [T.mir, T.size, mir_size l, mir_size r]; omega
theorem mir_par : ∀ (s : T) (N off p : Int), 0 ≤ off → ((s.par off p).reverse).map (mirN N) = s.mir.par (N - off - s.size) (mirN N p)
  | .nil, _, _, _, _ => rfl
  | .node l r, N, off, p, h => by
    simp only [T.par, T.mir, List.reverse_append, List.reverse_cons, List.map_append, List.map_cons, List.map_nil]
    rw [mir_par l N off (off + l.size) h, mir_par r N (off + l.size + 1) (off + l.size) (by omega), mir_size]
    have e1 : mirN N (off + l.size) = N - 1 - (off + l.size) := by unfold mirN; rw [if_neg (by omega)]
    rw [e1]
    have e2 : N - off - ((T.node l r).size : Int) = N - (off + l.size + 1) - r.size := by simp only [T.size]; omega
    rw [e2]
    have e3 : N - (off + ↑l.size + 1) - ↑r.size + ↑r.size = N - 1 - (off + ↑l.size) := by omega
    rw [e3, show N - 1 - (off + (l.size : Int)) + 1 = N - off - l.size by omega]
    simp
theorem mir_parOf (t : T) : t.mir.parOf = (t.parOf.reverse).map (mirN t.size) := by
  unfold T.parOf
  rw [mir_par t t.size 0 (-1) (by omega)]
  rw [show ((t.size : Int) - 0 - t.size) = 0 by omega]
  rfl
theorem mir_wr : ∀ t : T, t.mir.wr = t.rc.reverse
  | .nil => rfl
  | .node l r => by simp [T.mir, T.wr, T.rc, mir_wr l, mir_wr r]
theorem mir_rc : ∀ t : T, t.mir.rc = t.wr.reverse
  | .nil => rfl
  | .node l r => by simp [T.mir, T.wr, T.rc, mir_rc l, mir_rc r]
theorem mir_mir : ∀ t : T, t.mir.mir = t
  | .nil => rfl
  | .node l r => by simp [T.mir, mir_mir l, mir_mir r]

/-! ### parents of a joined tree -/
theorem par_below {N : Int} : ∀ (s : T) (off p : Int), 0 ≤ off → (s.par off p).map (fun q => if q = -1 then N else q) = s.par off (if p = -1 then N else p)
  | .nil, _, _, _ => rfl
  | .node l r, off, p, h => by
    simp only [T.par, List.map_append, List.map_cons]
    rw [par_below l off _ h, par_below r (off + l.size + 1) _ (by omega), if_neg (by omega : ¬ off + (l.size : Int) = -1)]
theorem par_beyond {N : Int} : ∀ (s : T) (off p : Int), 0 ≤ off → (s.par off p).map (fun q => if q = -1 then N else q + N + 1) = s.par (off + N + 1) (if p = -1 then N else p + N + 1)
  | .nil, _, _, _ => rfl
  | .node l r, off, p, h => by
    simp only [T.par, List.map_append, List.map_cons]
    rw [par_beyond l off _ h, par_beyond r (off + l.size + 1) _ (by omega), if_neg (by omega : ¬ off + (l.size : Int) = -1)]
    have e1 : off + (l.size : Int) + N + 1 = off + N + 1 + l.size := by omega
    have e2 : off + (l.size : Int) + 1 + N + 1 = off + N + 1 + l.size + 1 := by omega
    rw [e1, e2]
theorem parOf_node (s u : T) : (T.node s u).parOf = s.parOf.map (fun q => if q = -1 then (s.size : Int) else q) ++ [-1] ++ u.parOf.map (fun q => if q = -1 then (s.size : Int) else q + s.size + 1) := by
  unfold T.parOf
  rw [par_below s 0 (-1) (by omega), par_beyond u 0 (-1) (by omega)]
  simp only [T.par]
  simp
theorem parOf_root (s u : T) : (T.node s u).parOf[s.size]? = some (-1) := by
  have := sub_root (t := T.node s u) .root
  simpa using this
theorem parOf_first {s u : T} {m : Nat} (h : m < s.size) : (T.node s u).parOf[m]? ≠ some (-1) := fun e => by
  rcases par_in _ _ _ _ _ e with ⟨l, r, e1, e2, _⟩ | ⟨h1, _, _⟩
  · cases e1; omega
  · omega

/-! ### runs as lists of flushes -/
theorem stk_pair : ∀ (t : T) (off j : Nat), j + 1 ≤ t.runs → (t.stk off)[t.runs - (j + 1)]? = some (off + t.start (j + 1), off + t.start j)
  | .nil, _, _, h => by simp [T.runs] at h
  | .node l r, off, j, h => by
    by_cases e : j = r.runs
    · subst e
      have e1 : (T.node l r).runs = r.runs + 1 := by simp [T.runs]; omega
      rw [e1, Nat.sub_self, ← e1, T.start_eq, T.start_node (Nat.le_refl _), T.start_eq]
      rfl
    · have h1 : j + 1 ≤ r.runs := by simp [T.runs] at h; omega
      have e1 : (T.node l r).runs - (j + 1) = (r.runs - (j + 1)) + 1 := by simp [T.runs]; omega
      rw [e1, T.start_node h1, T.start_node (by omega)]
      simp only [T.stk, List.getElem?_cons_succ]
      rw [stk_pair r (off + l.size + 1) j h1]
      congr 2 <;> omega
theorem start_anti : ∀ (t : T) (j : Nat), j + 1 ≤ t.runs → t.start (j + 1) < t.start j
  | .nil, _, h => by simp [T.runs] at h
  | .node l r, j, h => by
    by_cases e : j = r.runs
    · subst e
      have e1 : (T.node l r).runs = r.runs + 1 := by simp [T.runs]; omega
      rw [← e1, T.start_eq, T.start_node (Nat.le_refl _), T.start_eq]
      omega
    · have h1 : j + 1 ≤ r.runs := by simp [T.runs] at h; omega
      rw [T.start_node h1, T.start_node (by omega)]
      have := start_anti r j h1
      omega
/-- the flushes of [a, b) -/
def seg (a b : Nat) : List Nat := List.range' a (b - a)
theorem seg_app {a b c : Nat} (h1 : a ≤ b) (h2 : b ≤ c) : seg a b ++ seg b c = seg a c := by
  unfold seg
  have := List.range'_append_1 (s := a) (m := b - a) (n := c - b)
  rw [show a + (b - a) = b by omega, show b - a + (c - b) = c - a by omega] at this
  exact this
theorem seg_one (a : Nat) : seg a (a + 1) = [a] := by
  unfold seg
  rw [show a + 1 - a = 1 by omega]; rfl
theorem seg_nil (a : Nat) : seg a a = [] := by unfold seg; rw [Nat.sub_self]; rfl
theorem seg_len (a b : Nat) : (seg a b).length = b - a := by unfold seg; rw [List.length_range']
theorem seg_at {a b k : Nat} (h : a + k < b) : (seg a b)[k]? = some (a + k) := by
  unfold seg
  rw [List.getElem?_range' (by omega)]
  simp
theorem stk_take_succ {t : T} {j : Nat} (off : Nat) (h : j + 1 ≤ t.runs) : (t.stk off).take (t.runs - j) = (t.stk off).take (t.runs - (j + 1)) ++ [(off + t.start (j + 1), off + t.start j)] := by
  rw [show t.runs - j = (t.runs - (j + 1)) + 1 by omega, List.take_add_one, stk_pair t off j h]; rfl
/-- adjacent, from off on -/
theorem stk_starts : ∀ (t : T) (off : Nat), (t.stk off).map (·.1) = (off :: (t.stk off).map (·.2)).dropLast
  | .nil, _ => rfl
  | .node l r, off => by
    have ih := stk_starts r (off + l.size + 1)
    simp only [T.stk, List.map_cons]
    rw [ih]; rfl
theorem stk_stops : ∀ (t : T) (off : Nat), (off :: (t.stk off).map (·.2)).getLast? = some (off + t.size)
  | .nil, off => by simp [T.stk, T.size]
  | .node l r, off => by
    have ih := stk_stops r (off + l.size + 1)
    simp only [T.stk, List.map_cons, T.size]
    rw [List.getLast?_cons_cons, ih]
    congr 1; omega
theorem stk_lt : ∀ (t : T) (off : Nat) (p : Nat × Nat), p ∈ t.stk off → off ≤ p.1 ∧ p.1 < p.2 ∧ p.2 ≤ off + t.size
  | .nil, _, _, h => by simp [T.stk] at h
  | .node l r, off, p, h => by
    simp only [T.stk] at h
    rcases List.mem_cons.mp h with rfl | h
    · simp only [T.size]; omega
    · have := stk_lt r _ p h
      simp only [T.size]; omega
end MB

set_option maxHeartbeats 4000000
namespace MB
open PySem PySem.Spec PyProof.Rows L2

/-! ### great powers -/
def CPowW (i j : Int) : Prop := 0 ≤ j ∧ (Builtin.Int.intBits i : Int) * j ≤ 2 ^ 27
theorem op_powW {X : Cx} : OpR X (binaryOp .Pow) (rI CPowW fun i j => .int (i ^ j.toNat)) := opI fun _ _ _ _ _ _ _ hc q => pow_int hc.1 hc.2 q

/-! ### xs[i] op= e -/
theorem get_list {X : Cx} : PGet X (rIxL X.K) := by
  intro pins s σ H x y v u Q I rx ry h
  obtain ⟨p, xs, i, z, rfl, rfl, hq, he, q⟩ := h
  cases rx
  obtain ⟨t, rfl⟩ := ry
  obtain ⟨its, r, pl, hz⟩ := I.list hq
  obtain ⟨j, h1, h2, h3, h4, h5⟩ := atI_get he
  obtain ⟨w, ew, rw'⟩ := r.get h2
  have hl := r.length
  have hn := line63
  have fin : EP X pins σ Q w s := ⟨z, H, I, rw', q⟩
  by_cases h0 : 0 ≤ i
  · have hj : i.toNat = j := by
      rw [seqIndex_of h0 h5] at h1
      exact Option.some.inj h1
    exact getItem_listL pl.isList h0 (by omega) (by rw [hj]; exact ew) fin
  · have hj : (i + (its.toArray.size : Int)).toNat = j := by
      rw [seqIndex_neg (by omega) h4] at h1
      rw [List.size_toArray, ← hl]
      exact Option.some.inj h1
    exact wpAny_getItem_list_neg pl.isList (by omega) (by rw [List.size_toArray] <;> omega) (by omega) (by rw [hj]; simpa using ew) fin

/-! ### sum of a tuple of ints -/
theorem ints_at : ∀ {ns : List Int} {its : List Value}, Vals (ns.map V.int) its → ∀ (i : Nat) (v : Value), its[i]? = some v → ∃ t, v = .int (ns.getD i 0) t
  | [], _, .nil, i, v, h => by simp at h
  | n :: ns, u :: us, .cons r rr, 0, v, h => by
    obtain ⟨t, rfl⟩ := r
    simp at h
    exact ⟨t, by simp [h]⟩
  | n :: ns, u :: us, .cons r rr, i + 1, v, h => by
    have := ints_at rr i v (by simpa using h)
    simpa using this
theorem preSum_getD (ns : List Int) : ∀ k, k ≤ ns.length → preSum (fun i => ns.getD i 0) k = (ns.take k).sum
  | 0, _ => by simp [preSum]
  | k + 1, h => by
    have e : ns[k]? = some (ns.getD k 0) := by
      rw [List.getElem?_eq_getElem (by omega), List.getD_eq_getElem?_getD, List.getElem?_eq_getElem (by omega)]
      rfl
    rw [preSum, preSum_getD ns k (by omega), L2.sum_take e]
def rSumT (K : PySem.W.Frag) : List V → Hp → VK → Prop := fun xs H Q => ∃ (a : Addr) (ns : List Int), xs = [V.ref a] ∧ SqT K H a (ns.map V.int) ∧ Q (.int ns.sum) H
theorem cr_sumT {X : Cx} (hc : X.calm = true) : CallR X (.builtin "sum") (rSumT X.K) := by
  intro pins s σ H vs us Q I r h
  obtain ⟨a, ns, rfl, hs, q⟩ := h
  obtain ⟨its, rv, hl, _⟩ := I.tuple hs
  rw [Vals.ref1 r]
  have hT : s.heap.IsTuple a its.toArray := hl
  have hlt : a < s.heap.objs.size := by obtain ⟨_, e, _⟩ := hl; exact Heap.lt_size e
  refine PySem.call_sum_walkG (wpAny_pyIter_tuple hT ?_)
  refine ⟨s.heap.objs.size, [s.heap.objs.size, a], [s.heap.objs.size], its.toArray.size, _, _, fun i => ns.getD i 0, rfl, Walks.tuple (A := X.A.in1) (I.ok.hd hc) _ a (Nat.ne_of_lt hlt) its.toArray, ⟨⟨_, Heap.get?_push_size _ rfl, rfl, rfl⟩, hT.at fun o e => Heap.get?_push_of_some _ e⟩, fun b hb => ?_, fun i v hv => ints_at rv i v (by simpa using hv), fun h' tk t' hk => ?_⟩
  · show b < (s.heap.push _).objs.size
    rw [Heap.size_push]
    have e : b = s.heap.objs.size ∨ b = a := by simpa using hb
    rcases e with e | e
    · rw [e]; exact Nat.lt_succ_self _
    · rw [e]; exact Nat.lt_succ_of_lt hlt
  · have el : its.toArray.size = ns.length := by rw [List.size_toArray, ← rv.length, List.length_map]
    rw [el, preSum_getD ns _ (Nat.le_refl _), List.take_length]
    refine ⟨.int ns.sum, H, I.kept fun b o e => hk b o ?_ (Heap.get?_push_of_some _ e), ⟨_, rfl⟩, q⟩
    have := Heap.lt_size e
    simp only [List.mem_singleton]
    exact Nat.ne_of_lt this

/-! ### enumerate(tuple) -/
set_option maxHeartbeats 4000000 in
theorem meets_enumerate_newT (l : Addr) (items : Array Value) (n : Nat) (dct : Option Addr) (sl : Array (Option Value)) :
    Meets (Builtin.«enumerate.__new__» ⟨[.type "enumerate", .ref l], []⟩) (fun _ R s => s.heap.get? l = some { cls := .type "tuple", dict := dct, data := .seq items n, slots := sl } ∧
      R (.ok (.ret (.ref (s.heap.push { cls := .type "tuple_iterator", data := .fields #[.ref l, .int 0 0] }).objs.size)))
        { s with heap := (s.heap.push { cls := .type "tuple_iterator", data := .fields #[.ref l, .int 0 0] }).push { cls := .type "enumerate", data := .fields #[.none, .bool false, .ref s.heap.objs.size, rawInt 0, .none, .none] } }) :=
  .of_wp fun prog w A R s h => by
    obtain ⟨hp, g, d, tk, os⟩ := s; obtain ⟨hl, h⟩ := h
    have hsub := sub_enumerate
    have hL : Heap.IsTuple (Shared.heap ⟨hp, g, d, tk, os⟩) l items := ⟨_, hl, rfl, n, rfl⟩
    wp_walk using AutoSeq1.wpAny_loadPart' hl
    refine wpAny_stack_any fun st => wpAny_pure ?_
    split
    · rename_i c _ _ _ _ _
      cases (c == Value.type "enumerate")
      · wp_walk using AutoSeq1.wpAny_loadPart' hl, wpAny_pyIter_tuple hL
        exact ⟨_, rfl, h⟩
      · wp_walk using AutoSeq1.wpAny_loadPart' hl, wpAny_pyIter_tuple hL
        exact ⟨_, rfl, h⟩
    · wp_walk using AutoSeq1.wpAny_loadPart' hl, wpAny_pyIter_tuple hL
      exact ⟨_, rfl, h⟩
section
variable {prog : Program} {w : World} {A : Around} {E : Value → Shared → Prop} {s : Shared}
theorem call_enumerate_tuple {l : Addr} {items : Array Value} {Q : Value → Shared → Prop} (hL : s.heap.IsTuple l items)
    (h : ∀ h', IsEnum h' (s.heap.objs.size + 1) s.heap.objs.size 0 .none → h'.IsTupleIter s.heap.objs.size l 0 → h'.objs.size = s.heap.objs.size + 2 →
      (∀ b o, s.heap.get? b = some o → h'.get? b = some o) → Q (.ref (s.heap.objs.size + 1)) { s with heap := h' }) :
    wpAny (model prog w) A (call (.type "enumerate") [.ref l]) Q E s := by
  obtain ⟨⟨c, dct, dt, sl⟩, hl, hc, n, hd⟩ := hL
  replace hc : c = .type "tuple" := hc
  replace hd : dt = .seq items n := hd
  subst hc hd
  refine callType_new F.called_enumerate (by decide) (F.typeCall_enumerate_1 _) (F.newCall_enumerate_1 _) (fun obj => F.args_object_init_2 obj _) F.entry_enumerate_new
    (meets_enumerate_newT l items n dct sl) ⟨hl, ?_⟩
  have hz : (s.heap.push { cls := .type "tuple_iterator", data := .fields #[.ref l, .int 0 0] }).objs.size = s.heap.objs.size + 1 := Heap.size_push ..
  show _ ∧ _
  rw [hz]
  have he : IsEnum ((s.heap.push { cls := .type "tuple_iterator", data := .fields #[.ref l, .int 0 0] }).push
      { cls := .type "enumerate", data := .fields #[.none, .bool false, .ref s.heap.objs.size, rawInt 0, .none, .none] }) (s.heap.objs.size + 1) s.heap.objs.size 0 .none := by
    have := Heap.get?_push_size (s.heap.push { cls := .type "tuple_iterator", data := .fields #[.ref l, .int 0 0] })
      (o := { cls := .type "enumerate", data := .fields #[.none, .bool false, .ref s.heap.objs.size, rawInt 0, .none, .none] }) rfl
    rw [hz] at this; exact this
  refine ⟨⟨_, he, rfl⟩, h _ he ⟨_, Heap.get?_push_of_some _ (Heap.get?_push_size _ rfl), rfl, rfl⟩ (by rw [Heap.size_push, hz]) fun b o x => Heap.get?_push_of_some _ (Heap.get?_push_of_some _ x)⟩
end
def IteT (K : PySem.W.Frag) (a : Addr) : It :=
  ⟨fun i H => ∃ (xs : List V) (x : V), SqT K H a xs ∧ xs[i]? = some x, fun i H v H' => ∃ T x, v = .ref T ∧ H T = none ∧ H' = upd H T (.tup [.int (i : Nat), x]) ∧ ∀ xs, SqT K H a xs → xs[i]? = some x, fun i H => ∃ xs : List V, SqT K H a xs ∧ xs.length = i⟩
theorem tup_ne {h : Heap} {a it : Addr} {items : Array Value} {i : Nat} (h1 : h.IsTuple a items) (h2 : h.IsTupleIter it a i) : a ≠ it := fun e => by
  obtain ⟨o, ho, hc, n, hd⟩ := h1
  obtain ⟨o', ho', hc', hd'⟩ := h2
  rw [e] at ho
  rw [ho] at ho'
  cases ho'
  rw [hd] at hd'
  cases hd'
theorem turn_enumT {P : Program} {w : World} {K : PySem.W.Frag} {elts : List Expr} {kk : Nat} {tpos : Pos} (a e it : Addr) (hae : a ≠ e) :
    Turn P w K (.Tuple elts kk tpos) (IteT K a) [e, it] e (fun i h => (∃ old, IsEnum h e it ((i : Nat) : Int) old) ∧ h.IsTupleIter it a i ∧ e ≠ it) where
  mem := by simp
  obj := fun i h st b hb => by
    obtain ⟨⟨old, he⟩, ⟨o, ho, hc, hd⟩, _⟩ := st
    have e' : b = e ∨ b = it := by simpa using hb
    rcases e' with z | z
    · rw [z]; exact ⟨_, he, fun v q => nomatch q⟩
    · rw [z]; exact ⟨o, ho, fun v q => by rw [hd] at q; cases q⟩
  keep := fun i h h' st k => let ⟨⟨old, he⟩, hi, hne⟩ := st; ⟨⟨old, k e (by simp) _ he⟩, hi.at fun o q => k it (by simp) o q, hne⟩
  item := by
    intro X hP hw hK hc i pins s σ H E I hf st hg
    subst hP hw hK
    obtain ⟨⟨old, he⟩, hit, hne⟩ := st
    obtain ⟨xs, x, hq, hx⟩ := hg
    obtain ⟨its, rv, p, hz⟩ := I.tuple hq
    have p : s.heap.IsTuple a its.toArray := p
    have hat : a ≠ it := tup_ne p hit
    have hel : e < s.heap.objs.size := Heap.lt_size he
    have hil : it < s.heap.objs.size := by obtain ⟨_, q, _⟩ := hit; exact Heap.lt_size q
    have hlen : i < its.toArray.size := by
      rw [List.size_toArray, ← rv.length]; exact (List.getElem?_eq_some_iff.mp hx).1
    refine wpAny_pyNext_enum_itemD (Draws.tuple (prog := X.prog) (w := X.w) (A := X.A.in1) (I.ok.hd hc) it a hat its.toArray) he ⟨hit, p⟩ hlen hne (by simp; exact ⟨hne, fun z => hae z.symm⟩) fun u h' tk hu ho hit' hT hsz hk => ?_
    obtain ⟨u', hu', ru'⟩ := rv.get hx
    have eu : u = u' := by
      have h1 : its[i]? = some u := by simpa using hu
      rw [h1] at hu'; exact Option.some.inj hu'
    subst eu
    refine ⟨_, rfl, wpAny_letOwnedTupleGo_enum (s := { s with heap := h', toks := tk + 1 }) ho fun h'' he' sb => ?_⟩
    have hT2 : h''.get? s.heap.objs.size = some { cls := .type "tuple", data := .seq #[.int i tk, u] } := (sb.2 _ (Nat.ne_of_gt hel)).trans hT
    have new : ObjOk X.prog X.w (upd H s.heap.objs.size (.tup [.int (i : Nat), x])) h'' s.heap.objs.size (.tup [.int (i : Nat), x]) :=
      ⟨by show 2 ≤ sizeLine; decide, [.int i tk, u], .cons ⟨_, rfl⟩ (.cons ru' .nil), ⟨_, hT2, rfl, _, rfl⟩⟩
    have I1 : Inv X pins σ (upd H s.heap.objs.size (.tup [.int (i : Nat), x])) { s with heap := h'', toks := tk + 1 } :=
      I.turnedNew (ch := [e, it]) (fun b ob hb q => (sb.2 b (fun z => hb (by simp [z]))).trans (hk b ob (fun z => hb (by simp [z])) (fun z => hb (by simp [z])) q)) hf (Nat.le_refl _) new
    refine ⟨.ref s.heap.objs.size, _, I1, rfl, ⟨_, x, rfl, I.hok.fresh (Nat.le_refl _), rfl, fun ys hy => by rw [I.tuple_inj hy hq]; exact hx⟩, ⟨⟨u, ?_⟩, hit'.1.at fun o q => (sb.2 it (Ne.symm hne)).trans q, hne⟩, fun b hb => ?_⟩
    · have e1 : ((i + 1 : Nat) : Int) = (i : Int) + 1 := by omega
      rw [e1]; exact he'
    · have hb' : b < s.heap.objs.size := by
        have e' : b = e ∨ b = it := by simpa using hb
        rcases e' with z | z
        · rw [z]; exact hel
        · rw [z]; exact hil
      rw [upd_ne (Nat.ne_of_lt hb')]
      exact (hf b hb).1
  done := by
    intro X hP hw hK hc i pins s σ H E I hf st hg
    subst hP hw hK
    obtain ⟨⟨old, he⟩, hit, hne⟩ := st
    obtain ⟨xs, hq, hx⟩ := hg
    obtain ⟨its, rv, p, hz⟩ := I.tuple hq
    have p : s.heap.IsTuple a its.toArray := p
    have hat : a ≠ it := tup_ne p hit
    obtain ⟨f0, f1, f2, f3, f4, f5⟩ := hf it (by simp)
    have hlen : its.toArray.size = i := by rw [List.size_toArray, ← rv.length, hx]
    refine wpAny_pyNext_enum_endD (Draws.tuple (prog := X.prog) (w := X.w) (A := X.A.in1) (I.ok.hd hc) it a hat its.toArray) he ?_ fun h' eb => ⟨rfl, I.turned (t' := s.toks) (fun b o hb q => eb b o hb q) f0 f1 f3 f4 f5⟩
    rw [hlen]
    exact ⟨hit, p⟩
  self := fun A i s Q E st h => let ⟨⟨_, he⟩, _⟩ := st; wpAny_pyIter_enum he h
def iEnumT (K : PySem.W.Frag) (ta : TA) : TI := fun σ H R => ta σ H fun vs H1 => ∃ a xs, vs = [.ref a] ∧ SqT K H1 a xs ∧ R (IteT K a) H1
theorem pi_enumT {X : Cx} {e : Expr} {ta : TA} {p pos tpos : Pos} {elts : List Expr} {kk : Nat} (hg : Gl X "enumerate") (hm : X.mg "enumerate" = none) (ha : PA X [e] ta) (hs : starEach [e] X.env = [(false, eval e X.env)] := by rfl) :
    PI X (.Tuple elts kk tpos) (.Call (.Name "enumerate" p) [e] [] pos) (iEnumT X.K ta) := by
  refine ⟨fun pins s σ H R I h => ?_⟩
  refine Call_ (ld_blt I hg hm boot_enumerate (PyProof.Rows.callWith_type1 (thn (ha.run pos pins s σ H _ I h) fun us s1 ⟨vs, H1, I1, r1, q1⟩ => ?_) hs rfl))
  obtain ⟨a, xs, ex, hq, q⟩ := q1
  subst ex
  cases r1 with
  | cons r rr =>
    cases rr
    cases r
    obtain ⟨its, rv, p', hz⟩ := I1.tuple hq
    have hlt : a < s1.heap.objs.size := by obtain ⟨_, e, _⟩ := p'; exact Heap.lt_size e
    refine call_enumerate_tuple p' fun h' he hit hsz hk => wpAny_pyIter_enum he ?_
    have I2 : Inv X pins σ H1 { s1 with heap := h' } := I1.kept (t' := s1.toks) hk
    refine ⟨s1.heap.objs.size + 1, [s1.heap.objs.size + 1, s1.heap.objs.size], _, _, H1, rfl, I2, turn_enumT a (s1.heap.objs.size + 1) s1.heap.objs.size (Nat.ne_of_lt (Nat.lt_succ_of_lt hlt)), ⟨⟨.none, he⟩, hit, Nat.succ_ne_self _⟩, fun b hb => ?_, q⟩
    have e' : b = s1.heap.objs.size + 1 ∨ b = s1.heap.objs.size := by simpa using hb
    have hle : s1.heap.objs.size ≤ b := by
      rcases e' with z | z
      · rw [z]; exact Nat.le_add_right _ _
      · rw [z]; exact Nat.le_refl _
    exact I1.fpOk hle (I1.hok.fresh hle)
theorem walk_enumT {K : PySem.W.Frag} {a : Addr} {xs : List V} : Walk (IteT K a) xs.length (fun H => SqT K H a xs) (YPair (fun i => some (.int (i : Nat))) (fun i => xs[i]?)) := by
  refine ⟨fun i H hi hG => ⟨xs, xs[i], hG, List.getElem?_eq_getElem hi⟩, fun H hG => ⟨xs, hG, rfl⟩, fun i H x H' hi hG y => ?_⟩
  obtain ⟨T, x, e1, e2, e3, e4⟩ := y
  exact ⟨T, _, x, e1, e2, e3, rfl, e4 xs hG⟩

/-! ### tuple.index of an int -/
theorem flat_ints (ns : List Int) : (ns.map V.int).all flatV = true := by
  rw [List.all_map]
  exact List.all_eq_true.mpr fun _ _ => rfl
theorem mt_tindex {X : Cx} : MtR X "tuple.index" (fun x xs H Q => ∃ p, ∃ ys : List Int, ∃ z j, x = .ref p ∧ xs = [.int z] ∧ SqT X.K H p (ys.map V.int) ∧ ys[j]? = some z ∧ (∀ m, m < j → ys[m]? ≠ some z) ∧ Q (.int (j : Nat)) H) := by
  intro pins s σ H x xs v us Q I rx rs h
  obtain ⟨p, ys, z, j, rfl, rfl, hq, hy, hno, q⟩ := h
  cases rx
  obtain ⟨u, rfl, t, rfl⟩ := vals1 rs
  obtain ⟨its, r, pl, hz⟩ := I.tuple hq
  obtain ⟨⟨cls, dd, dt, sl⟩, ho, hc, n, hd⟩ := pl
  simp only at hc hd
  subst hc
  subst hd
  have hl : its.toArray.size = ys.length := by rw [List.size_toArray, ← r.length, List.length_map]
  have hj : j < its.toArray.size := by rw [hl]; exact (List.getElem?_eq_some_iff.mp hy).1
  have at' : ∀ (m : Nat) (hm : m < its.toArray.size), ∃ y t', ys[m]? = some y ∧ its.toArray[m] = Value.int y t' := fun m hm => by
    have hm' : m < ys.length := by rw [← hl]; exact hm
    obtain ⟨w, hw, t', hw'⟩ := r.get (i := m) (x := .int ys[m]) (by simp [hm'])
    refine ⟨ys[m], t', List.getElem?_eq_getElem hm', ?_⟩
    have e := (List.getElem?_eq_some_iff.mp hw).2
    rw [← hw', ← e]
    simp
  refine call_meets PySem.F.slot_tuple_index ⟨_, ho, rfl⟩ PySem.F.entry_tuple_index (PySem.F.args_tuple_index_2 _ _) (TI.tuple_indexAt p its.toArray n dd sl (.int z t) (eqU (.int z)) j hj ?_ ?_)
    ⟨ho, fun w hw => mem_eqAt (x := .int z) ⟨t, rfl⟩ rfl r (flat_ints ys) w (by simpa using hw), ⟨.int (j : Nat), H, I.tok _, ⟨_, rfl⟩, q⟩⟩
  · obtain ⟨y, t', h1, h2⟩ := at' j hj
    rw [hy] at h1
    cases h1
    rw [h2]
    show (z == z) = true
    exact beq_self_eq_true z
  · intro m hm hmj
    obtain ⟨y, t', h1, h2⟩ := at' m hm
    rw [h2]
    show (y == z) = false
    exact beq_eq_false_iff_ne.mpr fun e => hno m hmj (e ▸ h1)

/-! ### rules by the written part K itself (for a comprehension's block) -/
def rLen (K : PySem.W.Frag) : List V → Hp → VK → Prop := fun xs H Q => ∃ p ys, xs = [.ref p] ∧ (SqL K H p ys ∨ SqT K H p ys) ∧ Q (.int ys.length) H
def rTupOf (K : PySem.W.Frag) : List V → Hp → VK → Prop := fun xs H Q => ∃ p ys, xs = [.ref p] ∧ ((SqL K H p ys ∧ ∀ l, H l = none → Q (.ref l) (upd H l (.tup ys))) ∨ (SqT K H p ys ∧ Q (.ref p) H))
def rListOf (K : PySem.W.Frag) : List V → Hp → VK → Prop := fun xs H Q => ∃ p ys, xs = [.ref p] ∧ (SqL K H p ys ∨ SqT K H p ys) ∧ ∀ l, H l = none → Q (.ref l) (upd H l (.lst ys))
section
variable {X : Cx} {K : PySem.W.Frag}
theorem k_len (hK : X.K = K) : CallR X (.builtin "len") (rLen K) := by subst hK; exact call_len_seq
theorem k_tupOf (hK : X.K = K) : CallR X (.type "tuple") (rTupOf K) := by subst hK; exact call_tuple_of
theorem k_listOf (hK : X.K = K) : CallR X (.type "list") (rListOf K) := by subst hK; exact call_list_of
theorem k_isi (hK : X.K = K) : CallR X (.builtin "isinstance") (rIsi K) := by subst hK; exact call_isi
theorem k_ixT (hK : X.K = K) : IxR X (rIxT K) := by subst hK; exact ix_tup
theorem k_ixL (hK : X.K = K) : IxR X (rIxL K) := by subst hK; exact ix_list
theorem k_slT (hK : X.K = K) : SlR X (rSlA K) := by subst hK; exact sl_tupA
theorem k_catT (hK : X.K = K) : OpR X (binaryOp .Add) (rCatA K) := by subst hK; exact op_catA
theorem k_sumT (hK : X.K = K) (hc : X.calm = true) : CallR X (.builtin "sum") (rSumT K) := by subst hK; exact cr_sumT hc
end

/-! ### a statement, then the rest, with a word between them -/
def tCut (t u : TS) : TS := fun D σ H => ∃ Mid : L2.St → Hp → Prop, t { D with nx := Mid } σ H ∧ ∀ σ' H', Mid σ' H' → u D σ' H'
theorem pss_cut {X : Cx} {st : Stmt} {rest : List Stmt} {t u : TS} (h1 : PS X st t) (h2 : PSs X rest u) : PSs X (st :: rest) (tCut t u) := by
  refine ⟨fun pins s σ H D I h => ?_⟩
  obtain ⟨Mid, hm, hu⟩ := h
  refine wpAny_execs_cons (thn (h1.run pins s σ H { D with nx := Mid } I hm) fun f s1 q => ?_)
  cases f with
  | next =>
    obtain ⟨σ', H', I', q⟩ := q
    exact h2.run pins s1 σ' H' D I' (hu σ' H' q)
  | ret v => exact q
  | brk => exact q
  | cont => exact q

/-! ### a tuple that is known to be plain; its method index -/
def rTupOfZ (K : PySem.W.Frag) : List V → Hp → VK → Prop := fun xs H Q => ∃ p ys, xs = [.ref p] ∧ SqL K H p ys ∧ ∀ l o, H l = none → o.dict = none → Q (.ref l) (upd H l (.frz o (.tup ys)))
theorem k_tupOfZ {X : Cx} {K : PySem.W.Frag} (hK : X.K = K) : CallR X (.type "tuple") (rTupOfZ K) := by
  subst hK
  intro pins s σ H xs us Q I r h
  obtain ⟨p, ys, rfl, hq, q⟩ := h
  obtain ⟨u, rfl, rx⟩ := vals1 r
  cases rx
  obtain ⟨its, r', pl, hz⟩ := I.list hq
  have hlen := r'.length
  refine call_tuple_list pl.isList (fun h' kp => ?_) (by simp only [List.size_toArray] <;> omega)
  have I1 : Inv X pins σ H { s with heap := h' } := I.kept (t' := s.toks) kp
  have I2 : Inv X pins σ (upd H h'.objs.size (.frz { cls := .type "tuple", data := .seq its.toArray } (.tup ys))) { s with heap := h'.push { cls := .type "tuple", data := .seq its.toArray } } :=
    I1.laid (t' := s.toks) (fun b o e => Heap.get?_push_of_some _ e) (Nat.le_refl _) (show ObjOk X.prog X.w _ _ _ (.frz _ (.tup ys)) from ⟨Heap.get?_push_size _ rfl, hz, its, r', IsTup.new _ _⟩)
  exact ⟨.ref h'.objs.size, _, I2, rfl, q _ _ (I1.hok.fresh (Nat.le_refl _)) rfl⟩
def tTM (r : V → List V → Hp → VK → Prop) (to : TE) (t : TA) : TE := fun σ H Q => to σ H fun x H1 => (∃ a ob xs, x = .ref a ∧ H1 a = some (.frz ob (.tup xs)) ∧ ob.dict = none) ∧ t σ H1 fun xs H2 => r x xs H2 Q
theorem pe_tm {X : Cx} {o e : Expr} {es : List Expr} {to : TE} {t : TA} {name : Str} {apos cpos : Pos} {id : String} {r : V → List V → Hp → VK → Prop} (slot : Slot "tuple" name id) (hty : typeOf (.builtin id) = pure (.type "method_descriptor")) (hm : MtR X id r) (ho : PE X o to) (ha : PA X (e :: es) t)
    (hbase : attributeBase o name X.env (eval o X.env) = eval o X.env := by rfl)
    (hfew : ((backTo cpos (starEach (e :: es) X.env)).all (fun x => !x.1) && (backToKw cpos (keywordEach [] X.env)).all (fun x => x.1.isSome)
      && decide ((e :: es).length + ([] : List Keyword).length + (if ([] : List Keyword).isEmpty then 0 else 1) < 30)) = true := by rfl)
    (hline : (apos.endLine == cpos.line) = true := by rfl) (hs : starEach (e :: es) X.env = (false, eval e X.env) :: starEach es X.env := by rfl) (hplain : (backTo cpos (starEach es X.env)).any (·.1) = false := by rfl) :
    PE X (.Call (.Attribute o name apos) (e :: es) [] cpos) (tTM r to t) := by
  refine ⟨fun pins s σ H Q I h => ?_⟩
  refine wpAny_Call_method_late hbase hfew hline rfl (thn (ho.run pins s σ H _ I h) fun v s1 ⟨x, H1, I1, r1, ty, q1⟩ => ?_)
  obtain ⟨a, ob, xs, rfl, hf, hd⟩ := ty
  cases r1
  obtain ⟨hg, hz, its, rv, o', ho', hc, _⟩ := (show ObjOk X.prog X.w H1 s1.heap a (.frz ob (.tup xs)) from I1.hok a _ hf)
  have hc' : ob.cls = .type "tuple" := by rw [hg] at ho'; cases ho'; exact hc
  refine ⟨"tuple", id, PySem.F.plainAttrs_tuple, slot, hty, ⟨ob, hg, hc'⟩, fun b e => by cases e; exact ⟨ob, hg, hd⟩, ?_⟩
  have hA := ha.run cpos pins s1 σ H1 _ I1 q1
  rw [hs] at hA ⊢
  refine Calls.callWith_builtin (by show (false || (backTo cpos (starEach es X.env)).any (·.1)) = false; rw [hplain] <;> rfl) (Calls.evalArgs_plain ?_)
  exact thn hA fun us s2 ⟨vs, H2, I2, r2, q2⟩ => hm pins s2 σ H2 (.ref a) vs (.ref a) us Q I2 rfl r2 q2

/-! ### places in the text -/
def xAsg : Stmt → Expr
  | .Assign _ e _ => e
  | _ => .Constant .none 0 ⟨0, 0, 0, 0⟩
def xArg (i : Nat) : Expr → Expr
  | .Call _ as _ _ => as.getD i (.Constant .none 0 ⟨0, 0, 0, 0⟩)
  | _ => .Constant .none 0 ⟨0, 0, 0, 0⟩
def xLcSc : Expr → Scope
  | .ListComp _ _ sc _ => sc
  | _ => { kind := .function, names := [], isGenerator := false, isCoroutine := false }
/-! ### readings are monotone -/
theorem mono_pair {K : PySem.W.Frag} {n i j : Nat} (x : V) (σ' : L2.St) (H' : Hp) (Q Q' : L2.St → Hp → Prop) (h : ∀ a b, Q a b → Q' a b) (e : gTup K n (gCons (gName i) (gCons (gName j) gNil)) x σ' H' Q) : gTup K n (gCons (gName i) (gCons (gName j) gNil)) x σ' H' Q' := by
  obtain ⟨a, xs, e1, e2, e3, v, r, e4, v', r', e5, e6, q⟩ := e
  exact ⟨a, xs, e1, e2, e3, v, r, e4, v', r', e5, e6, h _ _ q⟩

section
variable {X : Cx} {K : PySem.W.Frag}
theorem k_piL {tg l : Expr} {tl : TE} (hK : X.K = K) (hl : PE X l tl) : PI X tg l (iList K tl) := by subst hK; exact pi_list hl
theorem k_piT {tg l : Expr} {tl : TE} (hK : X.K = K) (hl : PE X l tl) : PI X tg l (iTup K tl) := by subst hK; exact pi_tup hl
theorem k_pgT2 {x y : Str} {px py : Pos} {k : Nat} {pos : Pos} {t1 t2 : TG} (hK : X.K = K) (hc : X.calm = true) (h1 : PG X (.Name x px) t1) (h2 : PG X (.Name y py) t2) : PG X (.Tuple [.Name x px, .Name y py] k pos) (gTup K 2 (gCons t1 (gCons t2 gNil))) := by
  subst hK
  exact pg_tup hc (pgs_cons h1 (pgs_cons h2 pgs_nil))
end
end MB

set_option maxHeartbeats 4000000
namespace MB
open PySem PySem.Spec PyProof.Rows L2

/-! ### heaps -/
theorem same_upd {H : Hp} {p : Addr} {o : HO} (h : H p = none) : Same H (upd H p o) := fun b x e => by
  rw [upd_ne (ne_of_none e h)]
  exact e
/-- an object that was not tracked may change -/
theorem Same.mut {H H' : Hp} {p : Addr} {o : HO} (s : Same H H') (h : H p = none) : Same H (upd H' p o) := fun b x e => by
  rw [upd_ne (ne_of_none e h)]
  exact s _ _ e
theorem Same.tup {K : PySem.W.Frag} {H H' : Hp} {a : Addr} {xs : List V} (e : Same H H') (h : SqT K H a xs) : SqT K H' a xs := by
  rcases h with (h | ⟨o, h⟩) | h
  · exact .inl (.inl (e _ _ h))
  · exact .inl (.inr ⟨o, e _ _ h⟩)
  · exact .inr h
theorem Same.tupF {K : PySem.W.Frag} {H H' : Hp} {a : Addr} {o : Obj} {xs : List V} (e : Same H H') (h : H a = some (.frz o (.tup xs))) : SqT K H' a xs := .inl (.inr ⟨o, e _ _ h⟩)
theorem Dp.same {K : PySem.W.Frag} {H H' : Hp} (e : Same H H') : ∀ {v : V} {d : PyData}, Dp K H v d → Dp K H' v d := by
  intro v d h
  refine Dp.rec (motive_1 := fun v d _ => Dp K H' v d) (motive_2 := fun vs ds _ => DpAll K H' vs ds) ?_ ?_ ?_ ?_ ?_ ?_ ?_ ?_ h
  · exact .non
  · intro b; exact .bl b
  · intro i; exact .int i
  · intro x; exact .str x
  · intro a xs ds hs _ ih; exact .lst (e.seq hs) ih
  · intro a xs ds hs _ ih; exact .tup (Same.tup e hs) ih
  · exact .nil
  · intro v vs d ds _ _ h1 h2; exact .cons h1 h2
theorem DpAll.get {K : PySem.W.Frag} {H : Hp} : ∀ {vs : List V} {ds : List PyData}, DpAll K H vs ds → ∀ {i : Nat} {d : PyData}, ds[i]? = some d → ∃ v, vs[i]? = some v ∧ Dp K H v d
  | _, _, .nil, i, d, h => by simp at h
  | _, _, .cons a b, 0, d, h => by
    simp at h; subst h
    exact ⟨_, rfl, a⟩
  | _, _, .cons a b, i + 1, d, h => by
    obtain ⟨v, h1, h2⟩ := DpAll.get b (i := i) (d := d) (by simpa using h)
    exact ⟨v, by simpa using h1, h2⟩
theorem DpAll.len {K : PySem.W.Frag} {H : Hp} : ∀ {vs : List V} {ds : List PyData}, DpAll K H vs ds → vs.length = ds.length
  | _, _, .nil => rfl
  | _, _, .cons a b => by simp [DpAll.len b]
theorem DpAll.take {K : PySem.W.Frag} {H : Hp} : ∀ {vs : List V} {ds : List PyData} (n : Nat), DpAll K H vs ds → DpAll K H (vs.take n) (ds.take n)
  | _, _, 0, _ => .nil
  | _, _, _ + 1, .nil => .nil
  | _, _, n + 1, .cons a b => .cons a (DpAll.take n b)
theorem DpAll.append {K : PySem.W.Frag} {H : Hp} : ∀ {vs ws : List V} {ds es : List PyData}, DpAll K H vs ds → DpAll K H ws es → DpAll K H (vs ++ ws) (ds ++ es)
  | _, _, _, _, .nil, s => s
  | _, _, _, _, .cons a b, s => .cons a (DpAll.append b s)
theorem DpAll.same {K : PySem.W.Frag} {H H' : Hp} (e : Same H H') : ∀ {vs : List V} {ds : List PyData}, DpAll K H vs ds → DpAll K H' vs ds
  | _, _, .nil => .nil
  | _, _, .cons a b => .cons (Dp.same e a) (DpAll.same e b)
theorem dp_ints {K : PySem.W.Frag} {H : Hp} : ∀ ns : List Int, DpAll K H (ns.map V.int) (ns.map PyData.int)
  | [] => .nil
  | n :: ns => .cons (.int n) (dp_ints ns)
theorem ty_tup {K : PySem.W.Frag} {H : Hp} {a : Addr} {xs : List V} (h : SqT K H a xs) : TyX K H (.ref a) (.type "tuple") := by
  rcases h with (h | ⟨o, h⟩) | ⟨o, its, n, h, hc, _⟩
  · exact .base (.tup h)
  · exact .fTuple h
  · exact .kTuple h hc

/-! ### lists of numbers -/
def vi (p : List Nat) : List V := p.map fun (m : Nat) => V.int (m : Int)
def ci (p : List Nat) : List Int := p.map fun (m : Nat) => (m : Int)
theorem vi_ci (p : List Nat) : vi p = (ci p).map V.int := by simp [vi, ci]
theorem vi_len (p : List Nat) : (vi p).length = p.length := by simp [vi]
theorem vi_get {p : List Nat} {i m : Nat} (h : p[i]? = some m) : (vi p)[i]? = some (.int (m : Int)) := by simp [vi, h]
theorem vi_app (p q : List Nat) : vi (p ++ q) = vi p ++ vi q := by simp [vi]
theorem at_vi {p : List Nat} {i m : Nat} (h : p[i]? = some m) : atI (vi p) (i : Int) = some (.int (m : Int)) := atI_nat (vi_get h)
theorem sz60 {n : Nat} (h : n ≤ 100000) : n ≤ sizeLine := Nat.le_trans h (by decide)
theorem sz61 {n : Nat} (h : n ≤ 100000) : n < sizeLine := Nat.lt_of_le_of_lt h (by decide)
theorem decT {c : Prop} [Decidable c] (h : c) {A B : Prop} (a : A) : if decide c = true then A else B := by
  rw [if_pos (decide_eq_true h)]; exact a
theorem decF {c : Prop} [Decidable c] (h : ¬ c) {A B : Prop} (b : B) : if decide c = true then A else B := by
  rw [if_neg (by simp [h])]; exact b

/-! ### data of tuples: no list within -/
inductive Tf : PyData → Prop
  | non : Tf .none
  | bl (b : Bool) : Tf (.bool b)
  | int (i : Int) : Tf (.int i)
  | str (x : Str) : Tf (.str x)
  | tup {ds : List PyData} : (∀ d, d ∈ ds → Tf d) → Tf (.tuple ds)
theorem Tf.items {ds : List PyData} (h : Tf (.tuple ds)) : ∀ d, d ∈ ds → Tf d := by
  cases h with
  | tup h => exact h
theorem tf_ints (ns : List Int) : ∀ d, d ∈ ns.map PyData.int → Tf d := fun d h => by
  obtain ⟨i, _, rfl⟩ := List.mem_map.mp h
  exact .int i
/-- all tuples stay -/
def Keep (K : PySem.W.Frag) (H H' : Hp) : Prop := ∀ a xs, SqT K H a xs → SqT K H' a xs
theorem Keep.of {K : PySem.W.Frag} {H H' : Hp} (s : Same H H') : Keep K H H' := fun _ _ h => Same.tup s h
theorem Keep.trans {K : PySem.W.Frag} {H H1 H2 : Hp} (a : Keep K H H1) (b : Keep K H1 H2) : Keep K H H2 := fun _ _ h => b _ _ (a _ _ h)
theorem Keep.refl {K : PySem.W.Frag} {H : Hp} : Keep K H H := fun _ _ h => h
/-- all but the list at l stay -/
def But (l : Addr) (H H' : Hp) : Prop := ∀ b o, b ≠ l → H b = some o → H' b = some o
theorem But.refl {l : Addr} {H : Hp} : But l H H := fun _ _ _ h => h
theorem But.trans {l : Addr} {H H1 H2 : Hp} (a : But l H H1) (b : But l H1 H2) : But l H H2 := fun c o n h => b c o n (a c o n h)
theorem But.of {l : Addr} {H H' : Hp} (s : Same H H') : But l H H' := fun c o _ h => s c o h
theorem But.upd {l : Addr} {H : Hp} {o : HO} : But l H (L2.upd H l o) := fun c u n h => by rw [upd_ne n]; exact h
theorem But.keep {K : PySem.W.Frag} {l : Addr} {H H' : Hp} {ys : List V} (s : But l H H') (hl : H l = some (.lst ys)) : Keep K H H' := fun a xs h => by
  rcases h with (h | ⟨o, h⟩) | h
  · exact .inl (.inl (s _ _ (fun e => by rw [e, hl] at h; cases h) h))
  · exact .inl (.inr ⟨o, s _ _ (fun e => by rw [e, hl] at h; cases h) h⟩)
  · exact .inr h
theorem But.same {l : Addr} {H0 H H' : Hp} (s : Same H0 H) (b : But l H H') (n : H0 l = none) : Same H0 H' := fun c o e => b c o (ne_of_none e n) (s c o e)
theorem Dp.keep {K : PySem.W.Frag} {H H' : Hp} (e : Keep K H H') : ∀ {v : V} {d : PyData}, Tf d → Dp K H v d → Dp K H' v d := by
  intro v d t h
  refine Dp.rec (motive_1 := fun v d _ => Tf d → Dp K H' v d) (motive_2 := fun vs ds _ => (∀ d, d ∈ ds → Tf d) → DpAll K H' vs ds) ?_ ?_ ?_ ?_ ?_ ?_ ?_ ?_ h t
  · intro _; exact .non
  · intro b _; exact .bl b
  · intro i _; exact .int i
  · intro x _; exact .str x
  · intro a xs ds hs _ ih t; cases t
  · intro a xs ds hs _ ih t; exact .tup (e _ _ hs) (ih t.items)
  · intro _; exact .nil
  · intro v vs d ds _ _ h1 h2 t; exact .cons (h1 (t _ (List.mem_cons_self ..))) (h2 fun d hd => t d (List.mem_cons_of_mem _ hd))
theorem DpAll.keep {K : PySem.W.Frag} {H H' : Hp} (e : Keep K H H') : ∀ {vs : List V} {ds : List PyData}, (∀ d, d ∈ ds → Tf d) → DpAll K H vs ds → DpAll K H' vs ds
  | _, _, _, .nil => .nil
  | _, _, t, .cons a b => .cons (Dp.keep e (t _ (List.mem_cons_self ..)) a) (DpAll.keep e (fun d hd => t d (List.mem_cons_of_mem _ hd)) b)
theorem dp_ints_inv {K : PySem.W.Frag} {H : Hp} : ∀ {ns : List Int} {vs : List V}, DpAll K H vs (ns.map PyData.int) → vs = ns.map V.int
  | [], _, .nil => rfl
  | n :: ns, _, .cons a b => by
    cases a
    rw [dp_ints_inv b]
    rfl
theorem Dp.tupInv {K : PySem.W.Frag} {H : Hp} {v : V} {ds : List PyData} (h : Dp K H v (.tuple ds)) : ∃ a xs, v = .ref a ∧ SqT K H a xs ∧ DpAll K H xs ds := by
  cases h with
  | tup h1 h2 => exact ⟨_, _, rfl, h1, h2⟩
theorem Dp.intsInv {K : PySem.W.Frag} {H : Hp} {v : V} {ns : List Int} (h : Dp K H v (.tuple (ns.map PyData.int))) : ∃ a, v = .ref a ∧ SqT K H a (ns.map V.int) := by
  obtain ⟨a, xs, e, h1, h2⟩ := Dp.tupInv h
  rw [dp_ints_inv h2] at h1
  exact ⟨a, e, h1⟩

/-! ### a comprehension that gives an item at each turn -/
theorem lc_all {K : PySem.W.Frag} {J : It} {n : Nat} {G : Hp → Prop} {Y : Nat → Hp → V → Hp → Prop} (w : Walk J n G Y) {g : TG} {tt : TT} {te : TE} {vs : List Nat} {σ : L2.St} {H1 : Hp} {D : Addr} {Qd : Hp → Prop}
    (ds : List PyData) (hl : ds.length = n) (ht : ∀ d, d ∈ ds → Tf d) (hn : n ≤ 1000) (hD : H1 D = none) (hG : ∀ H, Same H1 H → G H)
    (hs : ∀ i x H H', i < n → Same H1 H → Y i H x H' → ∀ d, ds[i]? = some d → ∀ R : V → Hp → Prop, (∀ y H4, Same H H4 → Dp K H4 y d → R y H4) →
      g x (wipe σ vs) H' fun σ2 H2 => wipe σ2 vs = wipe σ vs ∧ tt σ2 H2 fun b H3 => b = true ∧ te σ2 H3 R)
    (hd : ∀ H acc, Same H1 H → H D = some (.lst acc) → DpAll K H acc ds → Qd H)
    (mg : ∀ x σ' H' (Q Q' : L2.St → Hp → Prop), (∀ a b, Q a b → Q' a b) → g x σ' H' Q → g x σ' H' Q') (mt : ∀ σ' H' (Q Q' : Bool → Hp → Prop), (∀ a b, Q a b → Q' a b) → tt σ' H' Q → tt σ' H' Q') :
    ∃ W : Nat → Nat → Hp → Prop, (∃ m, W 0 m (upd H1 D (.lst []))) ∧ ∀ i m H, W i m H →
      (J.stop i H ∧ Qd H) ∨ (J.go i H ∧ ∃ Nx : Hp → Prop, (∀ H', Nx H' → ∃ m', m' < m ∧ W (i + 1) m' H') ∧ ∀ x H', J.yld i H x H' → g x (wipe σ vs) H' fun σ2 H2 => wipe σ2 vs = wipe σ vs ∧ tt σ2 H2 fun b H3 =>
        if b = true then te σ2 H3 fun y H4 => ∃ acc, H4 D = some (.lst acc) ∧ acc.length < sizeLine ∧ Nx (upd H4 D (.lst (acc ++ [y]))) else Nx H3) := by
  refine lc_it w (fun i H => Same H1 H ∧ ∃ acc, H D = some (.lst acc) ∧ DpAll K H acc (ds.take i)) ⟨same_upd hD, [], upd_same, .nil⟩ (fun i H _ h => hG H h.1) ?_ ?_
  · rintro i x H H' hi ⟨s1, acc, ha, hA⟩ hy
    have hd' : ds[i]? = some ds[i] := List.getElem?_eq_getElem (by omega)
    have hlen := DpAll.len hA
    rw [List.length_take] at hlen
    refine mg _ _ _ _ _ ?_ (hs i x H H' hi s1 hy ds[i] hd' (fun y H4 => ∃ acc, H4 D = some (.lst acc) ∧ acc.length < sizeLine ∧ (Same H1 (upd H4 D (.lst (acc ++ [y]))) ∧ ∃ acc', (upd H4 D (.lst (acc ++ [y]))) D = some (.lst acc') ∧ DpAll K (upd H4 D (.lst (acc ++ [y]))) acc' (ds.take (i + 1)))) ?_)
    · rintro σ2 H2 ⟨h1, h2⟩
      refine ⟨h1, mt _ _ _ _ ?_ h2⟩
      rintro b H3 ⟨rfl, h3⟩
      exact iteT h3
    · intro y H4 s4 hy4
      refine ⟨acc, s4 _ _ ha, sz61 (by omega), Same.mut (s1.trans s4) hD, acc ++ [y], upd_same, ?_⟩
      have kp : Keep K H4 (upd H4 D (.lst (acc ++ [y]))) := But.keep But.upd (s4 _ _ ha)
      rw [List.take_add_one, hd']
      refine DpAll.keep kp (fun d h => ?_) (DpAll.append (DpAll.same s4 hA) (.cons hy4 .nil))
      rcases List.mem_append.mp h with h | h
      · exact ht d (List.mem_of_mem_take h)
      · have e : d = ds[i] := by simpa using h
        rw [e]; exact ht _ (List.getElem_mem ..)
  · rintro H ⟨s1, acc, ha, hA⟩
    rw [List.take_of_length_le (by omega)] at hA
    exact hd H acc s1 ha hA

/-! ### tuples cut and joined -/
theorem cut_to {xs : List V} {k : Nat} (h : k ≤ xs.length) : cutV xs none (some (k : Int)) = xs.take k := by
  unfold cutV
  rw [HT.sIx_none, HT.sIx_nat, Nat.min_eq_left h]
  simp
theorem cut_from {xs : List V} {k : Nat} (h : k ≤ xs.length) : cutV xs (some (k : Int)) none = xs.drop k := by
  unfold cutV
  rw [HT.sIx_none, HT.sIx_nat, Nat.min_eq_left h]
  rw [List.take_of_length_le (by rw [List.length_drop]; omega)]
theorem sl_read {K : PySem.W.Frag} {H : Hp} {a : Addr} {xs : List V} {lo hi : Option Int} {Q : VK} (h : SqT K H a xs) (q : ∀ p H', Same H H' → SqT K H' p (cutV xs lo hi) → Q (.ref p) H') : rSlA K (.ref a) lo hi H Q := by
  refine ⟨a, xs, rfl, h, fun e => q a H (Same.refl H) ?_, fun _ p hp => q p _ (same_upd hp) (.inl (.inl upd_same))⟩
  unfold cutV
  rw [e.1, e.2]
  simpa using h
theorem cat_read {K : PySem.W.Frag} {H : Hp} {a b : Addr} {xs ys : List V} {Q : VK} (ha : SqT K H a xs) (hb : SqT K H b ys) (hz : xs.length + ys.length ≤ 100000) (q : ∀ p H', Same H H' → SqT K H' p (xs ++ ys) → Q (.ref p) H') : rCatA K (.ref a) (.ref b) H Q := by
  refine ⟨a, b, xs, ys, rfl, rfl, ha, hb, sz60 hz, fun e => q b H (Same.refl H) ?_, fun _ e => q a H (Same.refl H) ?_, fun _ _ p hp => q p _ (same_upd hp) (.inl (.inl upd_same))⟩
  · rw [e]; exact hb
  · rw [e, List.append_nil]; exact ha
theorem DpAll.snoc {K : PySem.W.Frag} {H : Hp} : ∀ {vs : List V} {ds : List PyData} {d : PyData}, DpAll K H vs (ds ++ [d]) → ∃ us v, vs = us ++ [v] ∧ DpAll K H us ds ∧ Dp K H v d
  | _, [], _, .cons a .nil => ⟨[], _, rfl, .nil, a⟩
  | _, _ :: ds, _, .cons a b => by
    obtain ⟨us, v, e, h1, h2⟩ := DpAll.snoc b
    exact ⟨_ :: us, v, by rw [e]; rfl, .cons a h1, h2⟩
theorem ixN_of {n j : Nat} (hj : j < n) : ixN n (j : Int) = some j := by
  unfold ixN
  rw [if_pos (by omega), if_pos (by omega)]
  simp
theorem vi_set (c : List Nat) (k v : Nat) : (vi c).set k (.int (v : Int)) = vi (c.set k v) := by
  unfold vi
  rw [List.map_set]
theorem vi_rep (n v : Nat) : vi (List.replicate n v) = List.replicate n (.int (v : Int)) := by simp [vi]

/-! ### [x for x in range(lo, hi) if ..] -/
theorem lc_fil {lo : Int} {n j : Nat} {vs : List Nat} {σ : L2.St} {H1 : Hp} {D : Addr} {Qd : Hp → Prop} {tt : TT} (f : Nat → Bool) (hn : n ≤ 1000) (hD : H1 D = none)
    (hw : ∀ x, wipe ((wipe σ vs).set j (some x)) vs = wipe σ vs) (hj : ∀ x : V, ((wipe σ vs).set j (some x))[j]? = some (some x))
    (ht : ∀ (i : Nat) H (Q : Bool → Hp → Prop), i < n → Same H1 H → Q (f i) H → tt ((wipe σ vs).set j (some (.int (lo + (i : Nat))))) H Q)
    (hd : ∀ H, Same H1 H → H D = some (.lst (((List.range n).filter f).map fun (i : Nat) => V.int (lo + (i : Nat)))) → Qd H) :
    ∃ W : Nat → Nat → Hp → Prop, (∃ m, W 0 m (upd H1 D (.lst []))) ∧ ∀ i m H, W i m H →
      ((Itr lo n).stop i H ∧ Qd H) ∨ ((Itr lo n).go i H ∧ ∃ Nx : Hp → Prop, (∀ H', Nx H' → ∃ m', m' < m ∧ W (i + 1) m' H') ∧ ∀ x H', (Itr lo n).yld i H x H' → gName j x (wipe σ vs) H' fun σ2 H2 => wipe σ2 vs = wipe σ vs ∧ tt σ2 H2 fun b H3 =>
        if b = true then tVar j σ2 H3 fun y H4 => ∃ acc, H4 D = some (.lst acc) ∧ acc.length < sizeLine ∧ Nx (upd H4 D (.lst (acc ++ [y]))) else Nx H3) := by
  refine lc_range (lo := lo) (n := n) (fun i H => Same H1 H ∧ H D = some (.lst (((List.range i).filter f).map fun (i : Nat) => V.int (lo + (i : Nat))))) ⟨same_upd hD, upd_same⟩ ?_ ?_
  · rintro i H hi ⟨s1, h1⟩
    refine ⟨hw _, ht i H _ hi s1 ?_⟩
    have hlen : (((List.range i).filter f).map fun (i : Nat) => V.int (lo + (i : Nat))).length ≤ i := by
      rw [List.length_map]
      have := List.length_filter_le f (List.range i)
      rw [List.length_range] at this
      exact this
    by_cases hf : f i = true
    · rw [hf]
      refine iteT ⟨_, hj _, _, h1, sz61 (by omega), Same.mut s1 hD, ?_⟩
      rw [List.range_succ, List.filter_append, List.map_append]
      simp only [List.filter_cons, hf, if_true, List.filter_nil, List.map_cons, List.map_nil]
      exact upd_same
    · have hf' : f i = false := by simpa using hf
      rw [hf']
      refine iteF ⟨s1, ?_⟩
      rw [List.range_succ, List.filter_append, List.map_append]
      simpa [hf'] using h1
  · rintro H ⟨s1, h1⟩
    exact hd H s1 h1
theorem iteB1 {b : Bool} {A B : Prop} (h : b = true) (a : A) : if b = true then A else B := by rw [if_pos h]; exact a
theorem iteB0 {b : Bool} {A B : Prop} (h : b = false) (a : B) : if b = true then A else B := by rw [if_neg (by rw [h]; decide)]; exact a

/-! ### deep comparisons -/
theorem lay_all : ∀ {ds : List PyData}, (∀ d, d ∈ ds → d.canLay0 = true) → PyData.canLayAll0 ds = true
  | [], _ => by simp [PyData.canLayAll0]
  | d :: ds, h => by
    simp only [PyData.canLayAll0]
    rw [h d (List.mem_cons_self ..), lay_all fun e he => h e (List.mem_cons_of_mem _ he)]; rfl
theorem dep_all {k : Nat} : ∀ {ds : List PyData}, (∀ d, d ∈ ds → d.depth ≤ k) → PyData.depthAll ds ≤ k
  | [], _ => by simp [PyData.depthAll]
  | d :: ds, h => by
    simp only [PyData.depthAll]
    have h1 := h d (List.mem_cons_self ..)
    have h2 := dep_all (k := k) fun e he => h e (List.mem_cons_of_mem _ he)
    omega
/-- plain data of at most so many levels -/
def Sh (k : Nat) (d : PyData) : Prop := d.canLay0 = true ∧ d.depth ≤ k
theorem Sh.shaped {k : Nat} {d : PyData} (h : Sh k d) (hk : k ≤ 64) : SeqAt.shaped d = true := by
  unfold SeqAt.shaped
  rw [h.1, decide_eq_true (by have := h.2; omega)]; rfl
theorem Sh.tup {k : Nat} {ds : List PyData} (h : ∀ d, d ∈ ds → Sh k d) : Sh (k + 1) (.tuple ds) :=
  ⟨by simp only [PyData.canLay0]; exact lay_all fun d hd => (h d hd).1, by simp only [PyData.depth]; have := dep_all (k := k) (ds := ds) fun d hd => (h d hd).2; omega⟩
theorem Sh.lst {k : Nat} {ds : List PyData} (h : ∀ d, d ∈ ds → Sh k d) : Sh (k + 1) (.list ds) :=
  ⟨by simp only [PyData.canLay0]; exact lay_all fun d hd => (h d hd).1, by simp only [PyData.depth]; have := dep_all (k := k) (ds := ds) fun d hd => (h d hd).2; omega⟩
theorem Sh.int (i : Int) {k : Nat} : Sh k (.int i) := ⟨by simp [PyData.canLay0], by simp [PyData.depth]⟩
theorem Sh.ints {k : Nat} (ns : List Int) : ∀ d, d ∈ ns.map PyData.int → Sh k d := fun d h => by
  obtain ⟨i, _, rfl⟩ := List.mem_map.mp h
  exact .int i
theorem eq_data {K : PySem.W.Frag} {H : Hp} {x y : V} {d : PyData} {Q : VK} {k : Nat} (hx : Dp K H x d) (hy : Dp K H y d) (hs : Sh k d) (hk : k ≤ 64) (q : Q (.bl true) H) : rEqD K x y H Q :=
  ⟨d, d, hx, hy, hs.shaped hk, hs.shaped hk, by rw [SeqAt.eqv_refl d hs.1]; exact q⟩
theorem ne_data {K : PySem.W.Frag} {H : Hp} {x y : V} {d : PyData} {Q : VK} {k : Nat} (hx : Dp K H x d) (hy : Dp K H y d) (hs : Sh k d) (hk : k ≤ 64) (q : Q (.bl false) H) : rNeD K x y H Q :=
  ⟨d, d, hx, hy, hs.shaped hk, hs.shaped hk, by rw [SeqAt.eqv_refl d hs.1]; exact q⟩
theorem dp_tup {K : PySem.W.Frag} {H : Hp} {a : Addr} {ns : List Int} (h : SqT K H a (ns.map V.int)) : Dp K H (.ref a) (.tuple (ns.map PyData.int)) := .tup h (dp_ints ns)
theorem ne_ints {K : PySem.W.Frag} {H : Hp} {a b : Addr} {ns : List Int} {Q : VK} (ha : SqT K H a (ns.map V.int)) (hb : SqT K H b (ns.map V.int)) (q : Q (.bl false) H) : rNeD K (.ref a) (.ref b) H Q :=
  ne_data (dp_tup ha) (dp_tup hb) (Sh.tup (k := 0) (Sh.ints ns)) (by decide) q
end MB

set_option maxHeartbeats 4000000
namespace MB
open PySem PySem.Spec PyProof.Rows L2

/-! ### a def called where no repr is under way -/
structure FnG (P : Program) (w : World) (K : PySem.W.Frag) (mg : Str → Option Value) (base : Heap) (CX : CXT) (k : Nat) (f : Addr) (fd : FuncData) (ps : List Str) (sp : Sp) : Prop where
  len : ∀ vs H Q E, sp vs H Q E → vs.length = ps.length
  run : ∀ (A : Around), A.guards = some [] → Room k A → ∀ (outer : List Env) (s : Shared) (H : Hp) (args : Args) (us : List Value) (vs : List V) (Q : VK) (E : XK),
    Env0 P w K mg base A outer s H → BindsTo s fd args (ps.zip us) → Vals vs us → sp vs H Q E → codeAny (model P w) A (.call (.ref f) args) (CR CX outer P w H s Q E) s
section
variable {P : Program} {w : World} {K : PySem.W.Frag} {mg : Str → Option Value} {base : Heap} {CX : CXT} {k : Nat} {f : Addr} {fd : FuncData} {ps : List Str} {sp : Sp}
theorem FnG.of (F : FnOk P w K mg base CX k f fd ps sp) : FnG P w K mg base CX k f fd ps sp :=
  ⟨F.len, fun A _ hr outer s H args us vs Q E => F.run A outer s H args us vs Q E hr⟩
theorem deeper_guards {A : Around} {env : Env} (h : A.guards = some []) : (A.deeper env).guards = some [] := h
theorem fnG_of {name qual : Str} {params : Arguments} {body : List Stmt} {scope : Scope} {dV kV doc pm cdv ct oc : Value} {an od : Option Addr} {osl : Array (Option Value)} {N : List Str}
    (lk : K.lookup f = some ⟨oc, od, .func (PySem.W.fnOf name qual params body scope dV kV doc pm an cdv ct), osl⟩) (hcd : PySem.W.codeIn K cdv qual = true) (S : FnScope N ps scope)
    (len : ∀ vs H Q E, sp vs H Q E → vs.length = ps.length)
    (hbody : ∀ (A : Around), A.guards = some [] → ∀ (outer : List Env) (s : Shared) (H : Hp) (vs : List V) (Q : VK) (E : XK), Room k (A.deeper (envOfC qual scope s.heap.objs.size f cdv)) → sp vs H Q E →
      ∃ t, PSs (cxOf CX P w K mg base N qual scope f cdv A outer s H E) body t ∧ t { nx := fun _ H' => Q .non H', rt := Q } (start N vs) H) :
    FnG P w K mg base CX (k + 1) f (PySem.W.fnOf name qual params body scope dV kV doc pm an cdv ct) ps sp := by
  refine ⟨len, fun A hgd hr outer s H args us vs Q E e0 hb r hsp => ?_⟩
  have kept : ∀ b o, base.get? b = some o → s.heap.get? b = some o := fun b o e => (e0.bs b o e).1
  have KX : K.In s.heap := e0.mod.kin.keeps kept
  obtain ⟨t, ht, hq⟩ := hbody A hgd outer s H vs Q E (hr.deeper _) hsp
  have par : ∀ y ∈ ps.zip us, scope.names.lookup y.1 = some .local ∨ (scope.names.lookup y.1 = some .cell ∧ ((cellsFrom (s.heap.objs.size + 1) scope.names []).lookup y.1).isSome = true) := by
    rintro ⟨n, v⟩ hy
    exact (S.par n (List.of_mem_zip hy).1).imp id fun z => ⟨z, PySem.W.cellsFrom_some _ _ _ (.inl z)⟩
  refine codeAny_call_function hr.depth (KX _ _ lk) rfl S.co S.gen rfl (PySem.W.codeRec_of KX hcd) (hb _ _ _ _ (wpAny_newFunctionEnv_cells S.kind par fun env he s1 x => ?_))
  subst he
  refine ⟨(e0.mod.nolimit.keeps kept).keeps x.toInCall.keep, codeAny_func (wpAny_mono (ht.run [] s1 (start N vs) H _ (inv_start S hr.hd e0 (len _ _ _ _ hsp) r x) hq) (fun fl s' hs => ?_) fun e s' hs => hs)⟩
  rcases fl with _ | _ | _ | u
  · obtain ⟨σ', H', J, q⟩ := hs
    exact ⟨V.non, H', J.os, J.bare, J.base, J.hok, rfl, q⟩
  · exact (let ⟨_, _, _, q⟩ := hs; False.elim q)
  · exact (let ⟨_, _, _, q⟩ := hs; False.elim q)
  · obtain ⟨v, σ', H', J, rv, q⟩ := hs
    exact ⟨v, H', J.os, J.bare, J.base, J.hok, rv, q⟩
theorem Fun.okG {x qual : Str} {st : Stmt} {N : List Str} (F : L2.Fun K x qual st f fd) (S : FnScope N ps (defScope st)) (len : ∀ vs H Q E, sp vs H Q E → vs.length = ps.length)
    (hbody : ∀ (cdv : Value) (A : Around), A.guards = some [] → ∀ (outer : List Env) (s : Shared) (H : Hp) (vs : List V) (Q : VK) (E : XK), Room k (A.deeper (envOfC qual (defScope st) s.heap.objs.size f cdv)) → sp vs H Q E →
      ∃ t, PSs (cxOf CX0 P w K mg base N qual (defScope st) f cdv A outer s H E).nox (defBody st) t ∧ t { nx := fun _ H' => Q .non H', rt := Q } (start N vs) H) : FnG P w K mg base CX0 (k + 1) f fd ps sp := by
  obtain ⟨oc, od, kV, doc, pm, an, cdv, ct, osl, rfl, lk, hcd⟩ := F.ex
  exact fnG_of lk hcd S len fun A hgd outer s H vs Q E hr hsp => let ⟨t, h, q⟩ := hbody cdv A hgd outer s H vs Q E hr hsp; ⟨t, h.nox, q⟩
end
section
variable {X : Cx} {CX : CXT} {k : Nat} {f : Addr} {fd : FuncData} {ps : List Str} {sp : Sp} {ds : List Value} {dvs : List V} {E : XK} {x : Str} {p pos : Pos} {e : Expr} {es : List Expr} {t : TA}
theorem pe_callG (F : FnG X.prog X.w X.K X.mg X.base CX k f fd ps sp) (hgd : X.A.guards = some []) (hr : Room k X.A) (hg : Gl X x) (hm : X.mg x = some (.ref f)) (hk : PySem.W.keepIn X.K (.ref f) = true) (hb : Binds X.K fd ps ds) (hd : Vals dvs ds) (hx : Passes CX X E)
    (ha : PA X (e :: es) t) (hdb : (x == ("__debug__" : Str)) = false := by decide) (he : starEach (e :: es) X.env = (false, eval e X.env) :: starEach es X.env := by rfl) (hpl : (backTo pos (starEach es X.env)).any (·.1) = false := by rfl) :
    PE X (.Call (.Name x p) (e :: es) [] pos) (tCall sp dvs E t) := by
  refine ⟨fun pins s σ H Q I h => wpAny_Call_Name_kw (ld_glob I hg hm (PySem.W.callWith_K (h₀ := X.base) I.ok.mod.kin hk (thn (ha.run pos pins s σ H _ I h) fun us s1 ⟨vs, H1, I1, r, q⟩ => ⟨I1.kIn, ?_⟩) he hpl) hdb)⟩
  have r2 : Vals (vs ++ dvs) (us ++ ds) := r.append hd
  have hl : (us ++ ds).length = ps.length := r2.length.symm.trans (F.len _ _ _ _ q)
  refine wpAny_call (codeAny_mono (F.run X.A hgd hr X.stack s1 H1 ⟨us, []⟩ (us ++ ds) (vs ++ dvs) Q E I1.env0 (hb s1 us I1.kIn hl) r2 q) fun res s' hq => ?_)
  rcases res with e | fl
  · exact hx pins σ H1 s1 e s' I1 hq
  · rcases fl with _ | _ | _ | u
    · exact False.elim hq
    · exact False.elim hq
    · exact False.elim hq
    · exact I1.after hq
end

/-! ### repr of plain data -/
def rReprD (K : PySem.W.Frag) : List V → Hp → VK → Prop := fun xs H Q => ∃ (x : V) (d : PyData), xs = [x] ∧ Dp K H x d ∧ d.canLay0 = true ∧ d.showable = true ∧ d.depth ≤ 60 ∧ d.shown.length ≤ sizeLine ∧ Q (.str d.shown) H
theorem call_reprD {X : Cx} (hgd : X.A.guards = some []) (hu : X.A.units + 64 < cLine) : CallR X (.builtin "repr") (rReprD X.K) := by
  intro pins s σ H xs us Q I r h
  obtain ⟨x, d, rfl, hd, hc, hs, hdep, hz, q⟩ := h
  obtain ⟨u, rfl, rx⟩ := vals1 r
  obtain ⟨as, rd⟩ := Dp.reads I d x u hd rx
  have nd := PyData.hasDict_of_canLay d hc
  have fin : ∀ (h' : Heap) (v tk : Tok), (∀ b o, s.heap.get? b = some o → h'.get? b = some o) → EP X pins σ Q (.str d.shown v) { s with heap := h', toks := tk } := fun h' v tk hk => ⟨.str d.shown, H, I.kept hk, ⟨_, rfl⟩, q⟩
  cases rd with
  | none => exact PySem.P.repr_of_none (fin _ _ _ fun _ _ e => e)
  | bool b =>
    refine PySem.P.repr_of_bool ?_
    cases b <;> exact fin s.heap s.toks (s.toks + 1) fun _ _ e => e
  | int i t => exact PySem.P.repr_of_int (by simpa [PyData.showable] using hs) (fin s.heap s.toks (s.toks + 1) fun _ _ e => e)
  | str y t => exact PySem.P.repr_of_str (fin s.heap s.toks (s.toks + 1) fun _ _ e => e) hz
  | list h1 h2 h3 h4 => exact repr_of_reads' (.list h1 h2 h3 h4) hs (PyData.noDict_hsm nd) hgd (by omega) (fun _ _ e => e) fin hz
  | tuple h1 h2 h3 h4 => exact repr_of_reads' (.tuple h1 h2 h3 h4) hs (PyData.noDict_hsm nd) hgd (by omega) (fun _ _ e => e) fin hz
  | dict h1 h2 h3 h4 h5 => simp [PyData.canLay0] at hc

/-! ### the end: a law whose promise asks that no repr is under way -/
theorem law_callG {P : Program} {w : World} {K : PySem.W.Frag} {mg mb : Str → Option Value} {k : Nat} {fa a : Addr} {fd : FuncData} {x : Str} {sp : Sp} {s₁ : Shared} {vs : List Value} {ns : List Int}
    (KX : K.In s₁.heap) (hns : s₁.heap.Ns mainGlobals mg) (hb : s₁.heap.Ns builtinsNs mb) (hbb : ∀ x : Str, x ≠ "__name__" → mb x = bootBuiltins x) (hlim : s₁.heap.NoLimit) (hg : s₁.gens = #[])
    (ha : s₁.heap.get? a = some { cls := .type "list", data := .seq vs.toArray }) (hi : IntsAre vs ns) (hl : ns.length ≤ sizeLine) (hr : Room k callerA)
    (F : ∀ base : Heap, K.In base → base.Ns mainGlobals mg → FnG P w K mg base CX0 k fa fd [x] sp) (hbind : ∀ (s : Shared) (u : Value), BindsTo s fd ⟨[u], []⟩ [(x, u)])
    (hsp : ∀ H : Hp, SqL K H a (ns.map V.int) → sp [.ref a] H (fun v _ => v = .bl true) fun _ _ _ => False) :
    codeAny (model P w) callerA (.call (.ref fa) ⟨[.ref a], []⟩) (fun r s' => r = .ok (.ret (.bool true)) ∧ OldK s₁.heap s'.heap ∧ s'.os = s₁.os ∧ AllBare s'.gens) s₁ := by
  let oS : Obj := { cls := .type "list", data := .seq vs.toArray }
  -- the script is tracked as it stands, unless it is one of the module's own objects
  let H : Hp := fun b => if b = a ∧ K.lookup a = none then some (.frz oS (.lst (ns.map V.int))) else none
  have rv := vals_ints hi
  have Hsome : ∀ {b : Addr} {o : HO}, H b = some o → b = a ∧ K.lookup a = none ∧ o = .frz oS (.lst (ns.map V.int)) := fun {b o} e => by
    by_cases c : b = a ∧ K.lookup a = none
    · have e' := (if_pos c).symm.trans e
      exact ⟨c.1, c.2, (Option.some.inj e').symm⟩
    · have e' := (if_neg c).symm.trans e
      cases e'
  have free : ∀ {b : Addr}, (∀ z : b = a, K.lookup a ≠ none) → H b = none := fun {b} n => if_neg fun c => n c.1 c.2
  have hS : SqL K H a (ns.map V.int) := by
    cases hk : K.lookup a with
    | none => exact .inl (.inr ⟨oS, if_pos ⟨rfl, hk⟩⟩)
    | some o =>
      have e := (KX a o hk).symm.trans ha
      cases e
      exact .inr ⟨_, vs.toArray, _, hk, rfl, rfl, rfl, by rw [List.size_toArray, hi.length]; exact hl, by simpa using rv⟩
  have hok : HOk P w H s₁.heap := fun b o e => by
    obtain ⟨rfl, _, rfl⟩ := Hsome e
    exact ⟨ha, by rw [List.length_map]; exact hl, vs, _, rv, ha⟩
  have noDict : ∀ {b : Addr} {o : Obj} {es : Array DictEntry} {ep : Nat}, s₁.heap.get? b = some o → o.data = .dict es ep → H b = none := fun {b o es ep} e d => free fun z => by
    subst z
    rw [ha] at e
    cases e
    cases d
  have ns_hid : ∀ {b : Addr} {m : Str → Option Value}, s₁.heap.Ns b m → (hidT s₁.heap H).Ns b m := fun {b m} ⟨o, es, ep, e, d, r⟩ => ⟨o, es, ep, hidT_get e (noDict e d), d, r⟩
  have hKb : K.In (hidT s₁.heap H) := fun b o e => hidT_get (KX b o e) (free fun z => by subst z; rw [e]; exact fun y => nomatch y)
  have hM : Mod K mg (hidT s₁.heap H) := ⟨hKb, ns_hid hns, ⟨mb, ns_hid hb, hbb⟩, let ⟨mc, h1, h2⟩ := hlim; ⟨mc, ns_hid h1, h2⟩⟩
  have e0 : Env0 P w K mg (hidT s₁.heap H) callerA [] s₁ H := ⟨rfl, hM, fun b o e => of_hidT e, Nat.le_of_eq (hidT_size _ _), trivial, (fun b hb => absurd (show b ∈ ([] : List Addr) from hb) (by simp)), hok, .of_eq hg⟩
  refine codeAny_mono ((F _ hKb (ns_hid hns)).run callerA rfl hr [] s₁ H ⟨[.ref a], []⟩ [.ref a] [.ref a] _ _ e0 (hbind s₁ (.ref a)) (.cons rfl .nil) (hsp H hS)) fun r s' h => ?_
  rcases r with e | fl
  · exact False.elim h
  rcases fl with _ | _ | _ | u
  · exact False.elim h
  · exact False.elim h
  · exact False.elim h
  obtain ⟨v, H', os, bare, un, hok', r', q⟩ := h
  have q' : v = .bl true := q
  subst q'
  obtain rfl : u = Value.bool true := r'
  refine ⟨rfl, OldK.of_keep fun b o e => ?_, os, bare⟩
  cases hb' : H b with
  | none => exact un.keep b o e hb' (fun z => absurd (show b ∈ ([] : List Addr) from z) (by simp)) (by simp)
  | some u =>
    obtain ⟨rfl, hk, rfl⟩ := Hsome hb'
    have e2 := (hok' _ _ (un.frzs _ oS _ hb')).1
    rw [ha] at e
    cases e
    exact e2
theorem walk_ofG {l : PySem.W.OpenLaw} {n k : Nat} {q : Program} {loose : List Str} {XP : (Str → Option Value) → Heap → Prop} {YP : World → Heap → Prop} {d : DefRec} {K : Params → PySem.W.Frag} {sp : PySem.W.Frag → Sp} {x : Str}
    (hn : l.most = some n) (hn2 : n ≤ sizeLine) (hdf : d.params.defaults = []) (hr : Room k callerA)
    (hY : ∀ (w : World) (h : Heap), YP w h → (K w.params).In h)
    (F : ∀ (w : World) (mg : Str → Option Value) (fa : Addr) (h : Heap), (K w.params).In h → h.Ns mainGlobals mg → mg d.name = some (.ref fa) →
      ∃ fd : FuncData, (∀ (s : Shared) (u : Value), BindsTo s fd ⟨[u], []⟩ [(x, u)]) ∧
        ∀ base : Heap, (K w.params).In base → base.Ns mainGlobals mg → FnG l.prog w (K w.params) mg base CX0 k fa fd [x] (sp (K w.params)))
    (hsp : ∀ (K : PySem.W.Frag) (H : Hp) (a : Addr) (ns : List Int), ns.length ≤ n → SqL K H a (ns.map V.int) → sp K [.ref a] H (fun v _ => v = .bl true) fun _ _ _ => False) :
    PySem.W.WalkO q loose XP YP l.row.toRowW d [] (fun f vs => PySem.call f vs) :=
  Att.attach_call hn hdf fun w s₀ s₁ mg mb fa o pm cd doc a vs ns G Y ho hd hcd hmg hobj hints hlen hg =>
    have KX := hY w _ Y
    let ⟨fd, hb, hF⟩ := F w mg fa _ KX G.T.g hmg
    law_callG KX G.T.g G.T.b G.T.builtins G.T.nolimit hg hobj hints (Nat.le_trans hlen hn2) hr hF hb fun H hS => hsp _ H a ns hlen hS
end MB

set_option maxHeartbeats 4000000
namespace MB
open PySem PySem.Spec PyProof.Rows L2
/-- data whose repr is asked: levels, size -/
structure Rp (k n : Nat) (d : PyData) : Prop where
  sh : Sh k d
  shw : d.showable = true
  short : d.leavesShort 13 = true
  bulk : d.bulk ≤ n
theorem Rp.mono {k n m : Nat} {d : PyData} (h : Rp k n d) (e : n ≤ m) : Rp k m d := ⟨h.sh, h.shw, h.short, Nat.le_trans h.bulk e⟩
theorem Rp.int {i : Int} {k : Nat} (h : i.natAbs < 1000000) : Rp k 0 (.int i) := by
  refine ⟨.int i, ?_, ?_, by simp [PyData.bulk]⟩
  · simp only [PyData.showable]
    refine decide_eq_true ?_
    by_cases h0 : i.natAbs = 0
    · rw [h0]; decide
    · exact Nat.lt_trans ((Nat.log2_lt h0).mpr (show i.natAbs < 2 ^ 20 by omega)) (by decide)
  · simp only [PyData.leavesShort]
    refine decide_eq_true ?_
    have e := int_text_length_le10 (a := i) (k := 6) (by decide) h
    have e2 : (PyData.shown (.int i)).length = (toString i).length := by
      simp only [PyData.shown]
      exact PySem.ofString_length _
    omega
theorem rp_all {k n : Nat} : ∀ {ds : List PyData}, (∀ d, d ∈ ds → Rp k n d) → PyData.showableAll ds = true ∧ PyData.leavesShortAll 13 ds = true ∧ PyData.bulkAll ds ≤ (n + 1) * ds.length
  | [], _ => ⟨by simp [PyData.showableAll], by simp [PyData.leavesShortAll], by simp [PyData.bulkAll]⟩
  | d :: ds, h => by
    have h1 := h d (List.mem_cons_self ..)
    obtain ⟨a, b, c⟩ := rp_all fun e he => h e (List.mem_cons_of_mem _ he)
    refine ⟨by simp only [PyData.showableAll, h1.shw, a, Bool.and_self], by simp only [PyData.leavesShortAll, h1.short, b, Bool.and_self], ?_⟩
    simp only [PyData.bulkAll, List.length_cons]
    have := h1.bulk
    rw [Nat.mul_add]
    omega
theorem Rp.tup {k n m : Nat} {ds : List PyData} (h : ∀ d, d ∈ ds → Rp k n d) (hm : (n + 1) * ds.length ≤ m) : Rp (k + 1) m (.tuple ds) := by
  obtain ⟨a, b, c⟩ := rp_all h
  exact ⟨Sh.tup fun d hd => (h d hd).sh, by simp only [PyData.showable]; exact a, by simp only [PyData.leavesShort]; exact b, by simp only [PyData.bulk]; omega⟩
theorem Rp.lst {k n m : Nat} {ds : List PyData} (h : ∀ d, d ∈ ds → Rp k n d) (hm : (n + 1) * ds.length ≤ m) : Rp (k + 1) m (.list ds) := by
  obtain ⟨a, b, c⟩ := rp_all h
  exact ⟨Sh.lst fun d hd => (h d hd).sh, by simp only [PyData.showable]; exact a, by simp only [PyData.leavesShort]; exact b, by simp only [PyData.bulk]; omega⟩
theorem Rp.ints {ns : List Int} {k m : Nat} (h : ∀ i, i ∈ ns → i.natAbs < 1000000) (hm : ns.length ≤ m) : Rp (k + 1) m (.tuple (ns.map PyData.int)) :=
  Rp.tup (n := 0) (fun d hd => by obtain ⟨i, hi, rfl⟩ := List.mem_map.mp hd; exact .int (h i hi)) (by rw [List.length_map]; omega)
theorem Rp.bool {b : Bool} {k : Nat} : Rp k 0 (.bool b) := ⟨⟨by simp [PyData.canLay0], by simp [PyData.depth]⟩, by simp [PyData.showable], by simp [PyData.leavesShort], by simp [PyData.bulk]⟩
/-- repr(x), by data -/
theorem repr_read {K : PySem.W.Frag} {H : Hp} {x : V} {d : PyData} {Q : VK} {k n : Nat} (hd : Dp K H x d) (hs : Rp k n d) (hk : k ≤ 60) (hn : n ≤ 1048576) (q : Q (.str d.shown) H) : rReprD K [x] H Q :=
  ⟨x, d, rfl, hd, hs.sh.1, hs.shw, Nat.le_trans hs.sh.2 hk, PyData.shown_fits_bulk (B := 13) (by decide) (by decide) hs.short (Nat.le_trans hs.bulk (by omega)), q⟩
theorem Rp.all {k n : Nat} {d : PyData} (hs : Rp k n d) (hk : k ≤ 60) (hn : n ≤ 1048576) : d.canLay0 = true ∧ d.showable = true ∧ d.depth ≤ 60 ∧ d.shown.length ≤ sizeLine :=
  ⟨hs.sh.1, hs.shw, Nat.le_trans hs.sh.2 hk, PyData.shown_fits_bulk (B := 13) (by decide) (by decide) hs.short (Nat.le_trans hs.bulk (by omega))⟩
end MB

set_option maxHeartbeats 4000000
namespace MB
open PySem PySem.Spec PyProof.Rows L2
/-- data whose repr is asked: levels, size -/
structure RpW (k n : Nat) (d : PyData) : Prop where
  sh : Sh k d
  shw : d.showable = true
  short : d.leavesShort  75 = true
  bulk : d.bulk ≤ n
theorem RpW.mono {k n m : Nat} {d : PyData} (h : RpW k n d) (e : n ≤ m) : RpW k m d := ⟨h.sh, h.shw, h.short, Nat.le_trans h.bulk e⟩
theorem RpW.int {i : Int} {k : Nat} (h : i.natAbs < 10 ^ 70) : RpW k 0 (.int i) := by
  refine ⟨.int i, ?_, ?_, by simp [PyData.bulk]⟩
  · simp only [PyData.showable]
    refine decide_eq_true ?_
    by_cases h0 : i.natAbs = 0
    · rw [h0]; decide
    · exact Nat.lt_trans ((Nat.log2_lt h0).mpr (show i.natAbs < 2 ^ 240 by exact Nat.lt_trans h (by decide +kernel))) (by decide)
  · simp only [PyData.leavesShort]
    refine decide_eq_true ?_
    have e := int_text_length_le10 (a := i) (k := 70) (by decide) h
    have e2 : (PyData.shown (.int i)).length = (toString i).length := by
      simp only [PyData.shown]
      exact PySem.ofString_length _
    omega
theorem rpW_all {k n : Nat} : ∀ {ds : List PyData}, (∀ d, d ∈ ds → RpW k n d) → PyData.showableAll ds = true ∧ PyData.leavesShortAll  75 ds = true ∧ PyData.bulkAll ds ≤ (n + 1) * ds.length
  | [], _ => ⟨by simp [PyData.showableAll], by simp [PyData.leavesShortAll], by simp [PyData.bulkAll]⟩
  | d :: ds, h => by
    have h1 := h d (List.mem_cons_self ..)
    obtain ⟨a, b, c⟩ := rpW_all fun e he => h e (List.mem_cons_of_mem _ he)
    refine ⟨by simp only [PyData.showableAll, h1.shw, a, Bool.and_self], by simp only [PyData.leavesShortAll, h1.short, b, Bool.and_self], ?_⟩
    simp only [PyData.bulkAll, List.length_cons]
    have := h1.bulk
    rw [Nat.mul_add]
    omega
theorem RpW.tup {k n m : Nat} {ds : List PyData} (h : ∀ d, d ∈ ds → RpW k n d) (hm : (n + 1) * ds.length ≤ m) : RpW (k + 1) m (.tuple ds) := by
  obtain ⟨a, b, c⟩ := rpW_all h
  exact ⟨Sh.tup fun d hd => (h d hd).sh, by simp only [PyData.showable]; exact a, by simp only [PyData.leavesShort]; exact b, by simp only [PyData.bulk]; omega⟩
theorem RpW.lst {k n m : Nat} {ds : List PyData} (h : ∀ d, d ∈ ds → RpW k n d) (hm : (n + 1) * ds.length ≤ m) : RpW (k + 1) m (.list ds) := by
  obtain ⟨a, b, c⟩ := rpW_all h
  exact ⟨Sh.lst fun d hd => (h d hd).sh, by simp only [PyData.showable]; exact a, by simp only [PyData.leavesShort]; exact b, by simp only [PyData.bulk]; omega⟩
theorem RpW.ints {ns : List Int} {k m : Nat} (h : ∀ i, i ∈ ns → i.natAbs < 10 ^ 70) (hm : ns.length ≤ m) : RpW (k + 1) m (.tuple (ns.map PyData.int)) :=
  RpW.tup (n := 0) (fun d hd => by obtain ⟨i, hi, rfl⟩ := List.mem_map.mp hd; exact .int (h i hi)) (by rw [List.length_map]; omega)
theorem RpW.bool {b : Bool} {k : Nat} : RpW k 0 (.bool b) := ⟨⟨by simp [PyData.canLay0], by simp [PyData.depth]⟩, by simp [PyData.showable], by simp [PyData.leavesShort], by simp [PyData.bulk]⟩
theorem fits75 {d : PyData} (hl : d.leavesShort 75 = true) (hw : d.bulk ≤ 100000) : d.shown.length ≤ sizeLine := by
  have h := PyData.shown_le_bulk 75 (by decide) d hl
  have h2 : (75 + 2) * d.bulk ≤ 77 * 100000 := Nat.mul_le_mul (by omega) (by omega)
  have e : sizeLine = 16777216 := by decide
  omega
/-- repr(x), by data -/
theorem reprW_read {K : PySem.W.Frag} {H : Hp} {x : V} {d : PyData} {Q : VK} {k n : Nat} (hd : Dp K H x d) (hs : RpW k n d) (hk : k ≤ 60) (hn : n ≤ 100000) (q : Q (.str d.shown) H) : rReprD K [x] H Q :=
  ⟨x, d, rfl, hd, hs.sh.1, hs.shw, Nat.le_trans hs.sh.2 hk, fits75 hs.short (Nat.le_trans hs.bulk hn), q⟩
theorem RpW.all {k n : Nat} {d : PyData} (hs : RpW k n d) (hk : k ≤ 60) (hn : n ≤ 100000) : d.canLay0 = true ∧ d.showable = true ∧ d.depth ≤ 60 ∧ d.shown.length ≤ sizeLine :=
  ⟨hs.sh.1, hs.shw, Nat.le_trans hs.sh.2 hk, fits75 hs.short (Nat.le_trans hs.bulk hn)⟩
end MB

set_option maxHeartbeats 4000000
namespace MB
open PySem PySem.Spec PyProof.Rows L2
/-! ### data of any kind, dicts among them -/
def kD : Key → PyData
  | .inl i => .int i
  | .inr x => .str x
mutual
inductive Dq (K : PySem.W.Frag) (H : Hp) : V → PyData → Prop
  | nonq : Dq K H .non .none
  | blq (b : Bool) : Dq K H (.bl b) (.bool b)
  | intq (i : Int) : Dq K H (.int i) (.int i)
  | strq (x : Str) : Dq K H (.str x) (.str x)
  | lstq {a : Addr} {xs : List V} {ds : List PyData} : SqL K H a xs → a ≠ sysModules → DqAll K H xs ds → Dq K H (.ref a) (.list ds)
  | tupq {a : Addr} {xs : List V} {ds : List PyData} : SqT K H a xs → DqAll K H xs ds → Dq K H (.ref a) (.tuple ds)
  | dctq {a : Addr} {kvs : List (Key × V)} {des : List (PyData × PyData)} : H a = some (.dK kvs) → des.map (·.1) = kvs.map (fun p => kD p.1) → DqAll K H (kvs.map (·.2)) (des.map (·.2)) → Dq K H (.ref a) (.dict des)
inductive DqAll (K : PySem.W.Frag) (H : Hp) : List V → List PyData → Prop
  | nil : DqAll K H [] []
  | cons {v : V} {vs : List V} {d : PyData} {ds : List PyData} : Dq K H v d → DqAll K H vs ds → DqAll K H (v :: vs) (d :: ds)
end
section
variable {X : Cx} {pins : List (Addr × Obj)} {σ : L2.St} {H : Hp} {s : Shared}
theorem keys_read {h : Heap} {P : Program} {w : World} {es : List DictEntry} {vs : List (Key × Value)} (hp : Pairs (mixKind P w) es vs) : ∀ {kvs : List (Key × V)}, KV kvs vs →
    ReadsAll h (es.map (·.key)) (kvs.map fun p => kD p.1) [] ∧ Vals (kvs.map (·.2)) (es.map (·.val)) := by
  induction hp with
  | nil => intro kvs r; cases r; exact ⟨.nil, .nil⟩
  | @cons e kv es vs a b c ih =>
    intro kvs r
    cases r with
    | @cons p _ ps _ r t =>
      obtain ⟨h1, h2⟩ := ih t
      obtain ⟨r1, r2⟩ := r
      have r3 : RelV p.2 e.val := by rw [b]; exact r2
      refine ⟨?_, .cons r3 h2⟩
      have e1 : keyIs kv.1 e.key = true := a
      rw [List.map_cons, List.map_cons, r1]
      rcases keyIs_shape e1 with ⟨i, t, h3, h4⟩ | ⟨x, t, h3, h4⟩
      · rw [h3, h4]; exact ReadsAll.cons (as := []) (bs := []) (.int i t) h1
      · rw [h3, h4]; exact ReadsAll.cons (as := []) (bs := []) (.str x t) h1
theorem Dq.reads (I : Inv X pins σ H s) {d : PyData} {v : V} (hq : Dq X.K H v d) : ∀ u : Value, RelV v u → ∃ as, Reads s.heap u d as ∧ sysModules ∉ as := by
  refine Dq.rec (motive_1 := fun v d _ => ∀ u : Value, RelV v u → ∃ as, Reads s.heap u d as ∧ sysModules ∉ as) (motive_2 := fun vs ds _ => ∀ us : List Value, Vals vs us → ∃ as, ReadsAll s.heap us ds as ∧ sysModules ∉ as) ?_ ?_ ?_ ?_ ?_ ?_ ?_ ?_ ?_ hq
  · intro u r; cases r; exact ⟨_, .none, by simp⟩
  · intro b u r; cases r; exact ⟨_, .bool b, by simp⟩
  · intro i u r; obtain ⟨t, rfl⟩ := r; exact ⟨_, .int i t, by simp⟩
  · intro x u r; obtain ⟨t, rfl⟩ := r; exact ⟨_, .str x t, by simp⟩
  · intro a xs ds hs hne _ ih u r
    cases r
    obtain ⟨its, rv, ⟨o, n, h1, h2, h3, h4⟩, _⟩ := I.list hs
    obtain ⟨as, ra, na⟩ := ih _ rv
    refine ⟨_, .list h1 h2 h4 (by simpa using ra), ?_⟩
    intro hm
    rcases List.mem_cons.mp hm with e | e
    · exact hne e.symm
    · exact na e
  · intro a xs ds hs _ ih u r
    cases r
    obtain ⟨its, rv, ⟨o, h1, h2, n, h3⟩, _⟩ := I.tuple hs
    obtain ⟨as, ra, na⟩ := ih _ rv
    exact ⟨_, .tuple h1 h2 h3 (by simpa using ra), na⟩
  · intro a kvs des he hk _ ih u r
    cases r
    obtain ⟨_, hsys, vs, kv, o, es, ep, h1, h2, h3, _, h5, _⟩ := dk_of I.hok he
    obtain ⟨g1, g2⟩ := keys_read (h := s.heap) h5 kv
    obtain ⟨bs, rb, nb⟩ := ih _ g2
    refine ⟨_, .dict h1 h2.1 h3 (by rw [hk]; exact g1) rb, ?_⟩
    intro hm
    rcases List.mem_cons.mp hm with e | e
    · rw [← e] at hsys; simp at hsys
    · exact nb (by simpa using e)
  · intro us t; cases t; exact ⟨_, .nil, by simp⟩
  · intro v vs d ds _ _ h1 h2 us t
    cases t with
    | cons r t =>
      obtain ⟨as, g1, n1⟩ := h1 _ r
      obtain ⟨bs, g2, n2⟩ := h2 _ t
      exact ⟨_, .cons g1 g2, by simp [n1, n2]⟩
end
theorem Dq.same {K : PySem.W.Frag} {H H' : Hp} (e : Same H H') {v : V} {d : PyData} (h : Dq K H v d) : Dq K H' v d := by
  refine Dq.rec (motive_1 := fun v d _ => Dq K H' v d) (motive_2 := fun vs ds _ => DqAll K H' vs ds) ?_ ?_ ?_ ?_ ?_ ?_ ?_ ?_ ?_ h
  · exact .nonq
  · intro b; exact .blq b
  · intro i; exact .intq i
  · intro x; exact .strq x
  · intro a xs ds hs hne _ ih; exact .lstq (e.seq hs) hne ih
  · intro a xs ds hs _ ih; exact .tupq (Same.tup e hs) ih
  · intro a kvs des he hk _ ih; exact .dctq (e _ _ he) hk ih
  · exact .nil
  · intro v vs d ds _ _ h1 h2; exact .cons h1 h2
theorem DqAll.same {K : PySem.W.Frag} {H H' : Hp} (e : Same H H') : ∀ {vs : List V} {ds : List PyData}, DqAll K H vs ds → DqAll K H' vs ds
  | _, _, .nil => .nil
  | _, _, .cons a b => .cons (Dq.same e a) (DqAll.same e b)
/-! ### repr -/
def rReprQ (K : PySem.W.Frag) : List V → Hp → VK → Prop := fun xs H Q => ∃ (x : V) (d : PyData), xs = [x] ∧ Dq K H x d ∧ d.showable = true ∧ d.depth ≤ 60 ∧ d.shown.length ≤ sizeLine ∧ Q (.str d.shown) H
theorem call_reprQ {X : Cx} (hgd : X.A.guards = some []) (hu : X.A.units + 64 < cLine) : CallR X (.builtin "repr") (rReprQ X.K) := by
  intro pins s σ H xs us Q I r h
  obtain ⟨x, d, rfl, hd, hs, hdep, hz, q⟩ := h
  obtain ⟨u, rfl, rx⟩ := vals1 r
  obtain ⟨as, rd, nsys⟩ := Dq.reads I hd u rx
  have fin : ∀ (h' : Heap) (v tk : Tok), (∀ b o, s.heap.get? b = some o → h'.get? b = some o) → EP X pins σ Q (.str d.shown v) { s with heap := h', toks := tk } := fun h' v tk hk => ⟨.str d.shown, H, I.kept hk, ⟨_, rfl⟩, q⟩
  cases rd with
  | none => exact PySem.P.repr_of_none (fin _ _ _ fun _ _ e => e)
  | bool b =>
    refine PySem.P.repr_of_bool ?_
    cases b <;> exact fin s.heap s.toks (s.toks + 1) fun _ _ e => e
  | int i t => exact PySem.P.repr_of_int (by simpa [PyData.showable] using hs) (fin s.heap s.toks (s.toks + 1) fun _ _ e => e)
  | str y t => exact PySem.P.repr_of_str (fin s.heap s.toks (s.toks + 1) fun _ _ e => e) hz
  | list h1 h2 h3 h4 => exact repr_of_reads' (.list h1 h2 h3 h4) hs (fun _ => nsys) hgd (by omega) (fun _ _ e => e) fin hz
  | tuple h1 h2 h3 h4 => exact repr_of_reads' (.tuple h1 h2 h3 h4) hs (fun _ => nsys) hgd (by omega) (fun _ _ e => e) fin hz
  | dict h1 h2 h3 h4 h5 => exact repr_of_reads' (.dict h1 h2 h3 h4 h5) hs (fun _ => nsys) hgd (by omega) (fun _ _ e => e) fin hz
theorem k_reprQ {X : Cx} {K : PySem.W.Frag} (e : X.K = K) (hgd : X.A.guards = some []) (hu : X.A.units + 64 < cLine) : CallR X (.builtin "repr") (rReprQ K) := by
  rw [← e]; exact call_reprQ hgd hu
end MB

set_option maxHeartbeats 4000000
namespace MB
open PySem PySem.Spec PyProof.Rows L2

/-! ### f(p = v), no value by position -/
def gK {α : Type} (us ws : List α) : List α := match us with
  | [] => ws
  | _ :: _ => []
section
variable {X : Cx} {CX : CXT} {k : Nat} {f : Addr} {fd : FuncData} {ps ks : List Str} {sp : Sp} {E : XK} {x : Str} {p pos : Pos} {kws : List Keyword} {tk : TA} {g : List Value → List Value → List Value} {gV : List V → List V → List V}
theorem pe_callK0 (F : FnOk X.prog X.w X.K X.mg X.base CX k f fd ps sp) (hr : Room k X.A) (hg : Gl X x) (hm : X.mg x = some (.ref f)) (hk : PySem.W.keepIn X.K (.ref f) = true) (hb : KBinds X.K fd ps ks g gV) (hx : Passes CX X E)
    (hkw : PK X kws tk) (hall : (backToKw pos (keywordEach kws X.env)).all (·.1.isSome) = true := by rfl) (hks : (backToKw pos (keywordEach kws X.env)).filterMap (·.1) = ks := by rfl)
    (hdb : (x == ("__debug__" : Str)) = false := by decide)
    (hpl : ((backTo pos (starEach [] X.env)).any (·.1) || (backToKw pos (keywordEach kws X.env)).any (·.1.isNone)) = false := by rfl) :
    PE X (.Call (.Name x p) [] kws pos) (tCallK sp gV E tNil tk) := by
  refine ⟨fun pins s σ H Q I h => ?_⟩
  refine wpAny_Call_Name_kw (ld_glob I hg hm ?_ hdb)
  refine PySem.W.callWith_KW0 (h₀ := X.base) I.ok.mod.kin hk hall ?_ hpl
  refine thn (hkw.run pos pins s σ H _ I h) fun ws s2 ⟨zs, H2, I2, rz, q2⟩ => ⟨I2.kIn, ?_⟩
  rw [hks]
  exact run_fnk (us := []) (vs := []) F hr hb hx I2 .nil rz q2
end
theorem kb1 {K : PySem.W.Frag} {x qual : Str} {st : Stmt} {f : Addr} {fd : FuncData} {q : Str} (F : L2.Fun K x qual st f fd)
    (h : ∀ (kV doc pm : Value) (an : Option Addr) (cdv ct u : Value), bindArgs (PySem.W.fnOf x qual (defArgs st) (defBody st) (defScope st) .none kV doc pm an cdv ct) ⟨[], [(q, u)]⟩ = pure [(q, u)]) : KBinds K fd [q] [q] gK gK := by
  obtain ⟨oc, od, kV, doc, pm, an, cdv, ct, osl, rfl, lk, hcd⟩ := F.ex
  refine ⟨fun s us ws _ hl => ?_, fun {vs us zs ws} r1 r2 => ?_⟩
  · cases us with
    | cons u us => exact nomatch hl
    | nil =>
      match ws, hl with
      | [u], _ => exact .of_eq (h kV doc pm an cdv ct u)
  · cases r1 with
    | nil => exact r2
    | cons _ _ => exact .nil

/-! ### a comprehension with a test -/
theorem lc_sel {K : PySem.W.Frag} {J : It} {n : Nat} {G : Hp → Prop} {Y : Nat → Hp → V → Hp → Prop} (w : Walk J n G Y) {g : TG} {tt : TT} {te : TE} {vs : List Nat} {σ : L2.St} {H1 : Hp} {D : Addr} {Qd : Hp → Prop}
    (f : Nat → Bool) (d : Nat → PyData) (ht : ∀ i, i < n → Tf (d i)) (hn : n ≤ 1000) (hD : H1 D = none) (hG : ∀ H, Same H1 H → G H)
    (hs : ∀ i x H H', i < n → Same H1 H → Y i H x H' → ∀ R : V → Hp → Prop, (∀ y H4, Same H H4 → Dp K H4 y (d i) → R y H4) →
      g x (wipe σ vs) H' fun σ2 H2 => wipe σ2 vs = wipe σ vs ∧ tt σ2 H2 fun b H3 => b = f i ∧ Same H H3 ∧ (b = true → te σ2 H3 R))
    (hd : ∀ H acc, Same H1 H → H D = some (.lst acc) → DpAll K H acc (((List.range n).filter f).map d) → Qd H)
    (mg : ∀ x σ' H' (Q Q' : L2.St → Hp → Prop), (∀ a b, Q a b → Q' a b) → g x σ' H' Q → g x σ' H' Q') (mt : ∀ σ' H' (Q Q' : Bool → Hp → Prop), (∀ a b, Q a b → Q' a b) → tt σ' H' Q → tt σ' H' Q') :
    ∃ W : Nat → Nat → Hp → Prop, (∃ m, W 0 m (upd H1 D (.lst []))) ∧ ∀ i m H, W i m H →
      (J.stop i H ∧ Qd H) ∨ (J.go i H ∧ ∃ Nx : Hp → Prop, (∀ H', Nx H' → ∃ m', m' < m ∧ W (i + 1) m' H') ∧ ∀ x H', J.yld i H x H' → g x (wipe σ vs) H' fun σ2 H2 => wipe σ2 vs = wipe σ vs ∧ tt σ2 H2 fun b H3 =>
        if b = true then te σ2 H3 fun y H4 => ∃ acc, H4 D = some (.lst acc) ∧ acc.length < sizeLine ∧ Nx (upd H4 D (.lst (acc ++ [y]))) else Nx H3) := by
  refine lc_it w (fun i H => Same H1 H ∧ ∃ acc, H D = some (.lst acc) ∧ DpAll K H acc (((List.range i).filter f).map d)) ⟨same_upd hD, [], upd_same, .nil⟩ (fun i H _ h => hG H h.1) ?_ ?_
  · rintro i x H H' hi ⟨s1, acc, ha, hA⟩ hy
    have hlen := DpAll.len hA
    have hle : acc.length ≤ i := by
      rw [hlen, List.length_map]
      have := List.length_filter_le f (List.range i)
      rw [List.length_range] at this
      exact this
    refine mg _ _ _ _ _ ?_ (hs i x H H' hi s1 hy (fun y H4 => ∃ acc, H4 D = some (.lst acc) ∧ acc.length < sizeLine ∧ (f i = true → Same H1 (upd H4 D (.lst (acc ++ [y]))) ∧ ∃ acc', (upd H4 D (.lst (acc ++ [y]))) D = some (.lst acc') ∧ DpAll K (upd H4 D (.lst (acc ++ [y]))) acc' (((List.range (i + 1)).filter f).map d))) ?_)
    · rintro σ2 H2 ⟨h1, h2⟩
      refine ⟨h1, mt _ _ _ _ ?_ h2⟩
      rintro b H3 ⟨hb, s3, h3⟩
      cases b with
      | true =>
        refine iteT ?_
        have h4 := h3 rfl
        have hb' := hb.symm
        simp only [hb', true_implies] at h4
        exact h4
      | false =>
        refine iteF ⟨s1.trans s3, acc, s3 _ _ ha, ?_⟩
        rw [List.range_succ, List.filter_append, List.map_append]
        have e : List.filter f [i] = [] := by rw [List.filter_cons, if_neg (by rw [← hb]; decide)]; rfl
        rw [e, List.map_nil, List.append_nil]
        exact DpAll.same s3 hA
    · intro y H4 s4 hy4
      refine ⟨acc, s4 _ _ ha, sz61 (by omega), fun hf => ⟨Same.mut (s1.trans s4) hD, acc ++ [y], upd_same, ?_⟩⟩
      have kp : Keep K H4 (upd H4 D (.lst (acc ++ [y]))) := But.keep But.upd (s4 _ _ ha)
      have e : List.filter f [i] = [i] := by rw [List.filter_cons, if_pos hf]; rfl
      rw [List.range_succ, List.filter_append, List.map_append, e]
      refine DpAll.keep kp (fun d' h => ?_) (DpAll.append (DpAll.same s4 hA) (.cons hy4 .nil))
      rcases List.mem_append.mp h with h | h
      · obtain ⟨j, hj, rfl⟩ := List.mem_map.mp h
        have := List.mem_range.mp (List.mem_filter.mp hj).1
        exact ht j (by omega)
      · have e : d' = d i := by simpa using h
        rw [e]; exact ht i hi
  · rintro H ⟨s1, acc, ha, hA⟩
    exact hd H acc s1 ha hA
end MB

set_option maxHeartbeats 4000000
namespace MB
open PySem PySem.Spec PyProof.Rows L2
/-! ### x *= e -/
theorem ip_mulW {X : Cx} : PIp X .Mult (fun x y H Q => ∃ i j, x = .int i ∧ y = .int j ∧ CMulW i j ∧ Q (.int (i * j)) H) := by
  intro pins s σ H x y v u Q I r1 r2 h
  obtain ⟨i, j, e1, e2, hc, q⟩ := h
  subst e1; subst e2
  obtain ⟨t, rfl⟩ := r1
  obtain ⟨t', rfl⟩ := r2
  exact imul_int ⟨.int _, H, I.tok _, ⟨_, rfl⟩, q⟩ hc.ok
/-! ### f(q = v, p = w): by keywords in any order -/
def gP {α : Type} (idx : List Nat) (us ws : List α) : List α := match us with
  | [] => idx.filterMap fun i => ws[i]?
  | _ :: _ => []
theorem gP_take {α : Type} {n : Nat} {ws : List α} : ∀ {idx : List Nat}, (∀ i, i ∈ idx → i < n) → (idx.filterMap fun i => (ws.take n)[i]?) = idx.filterMap fun i => ws[i]?
  | [], _ => rfl
  | i :: idx, h => by
    have h1 := h i (List.mem_cons_self ..)
    have h2 := gP_take (α := α) (n := n) (ws := ws) (idx := idx) fun j hj => h j (List.mem_cons_of_mem _ hj)
    rw [List.filterMap_cons, List.filterMap_cons, h2, List.getElem?_take, if_pos h1]
theorem gP_len {α : Type} {ws : List α} : ∀ {idx : List Nat}, (idx.filterMap fun i => ws[i]?).length = idx.length → ∀ i, i ∈ idx → i < ws.length
  | [], _, i, h => nomatch h
  | j :: idx, hl, i, h => by
    cases e : ws[j]? with
    | none =>
      simp only [List.filterMap_cons, e] at hl
      have := List.length_filterMap_le (fun i => ws[i]?) idx
      simp only [List.length_cons] at hl
      omega
    | some x =>
      simp only [List.filterMap_cons, e, List.length_cons, Nat.add_right_cancel_iff] at hl
      rcases List.mem_cons.mp h with h | h
      · subst h
        exact (List.getElem?_eq_some_iff.mp e).1
      · exact gP_len hl i h
theorem gP_rel {zs : List V} {ws : List Value} (r : Vals zs ws) : ∀ idx : List Nat, Vals (idx.filterMap fun i => zs[i]?) (idx.filterMap fun i => ws[i]?)
  | [] => .nil
  | i :: idx => by
    have ih := gP_rel r idx
    cases e : zs[i]? with
    | none =>
      have e2 : ws[i]? = none := List.getElem?_eq_none (by rw [← r.length]; exact List.getElem?_eq_none_iff.mp e)
      simp only [List.filterMap_cons, e, e2]; exact ih
    | some x =>
      obtain ⟨u, e2, ru⟩ := r.get e
      simp only [List.filterMap_cons, e, e2]; exact .cons ru ih
theorem zip_take {α β : Type} : ∀ (ks : List α) (ws : List β), ks.zip (ws.take ks.length) = ks.zip ws
  | [], _ => rfl
  | _ :: _, [] => rfl
  | k :: ks, w :: ws => by simp [zip_take ks ws]
theorem kbP {K : PySem.W.Frag} {x qual : Str} {st : Stmt} {f : Addr} {fd : FuncData} {ps ks : List Str} {idx : List Nat} (F : L2.Fun K x qual st f fd) (hi : idx.length = ps.length) (hk : ks.length = ps.length) (hp : 0 < ps.length)
    (hall : (∀ i, i ∈ idx → i < ps.length) ∧ ps.length - 1 ∈ idx)
    (h : ∀ (kV doc pm : Value) (an : Option Addr) (cdv ct : Value) (ws : List Value), ws.length = ps.length → bindArgs (PySem.W.fnOf x qual (defArgs st) (defBody st) (defScope st) .none kV doc pm an cdv ct) ⟨[], ks.zip ws⟩ = pure (ps.zip (gP idx [] ws))) : KBinds K fd ps ks (gP idx) (gP idx) := by
  obtain ⟨oc, od, kV, doc, pm, an, cdv, ct, osl, rfl, lk, hcd⟩ := F.ex
  refine ⟨fun s us ws _ hl => ?_, fun {vs us zs ws} r1 r2 => ?_⟩
  · cases us with
    | cons u us =>
      have : 0 = ps.length := hl
      omega
    | nil =>
      have hl' : (idx.filterMap fun i => ws[i]?).length = idx.length := by rw [hi]; exact hl
      have h2 := gP_len hl' _ hall.2
      have h3 := h kV doc pm an cdv ct (ws.take ps.length) (by rw [List.length_take]; omega)
      have e1 : gP idx [] (ws.take ps.length) = gP idx [] ws := gP_take hall.1
      have e2 : ks.zip (ws.take ps.length) = ks.zip ws := by
        rw [← hk]
        exact zip_take ks ws
      rw [e1, e2] at h3
      exact .of_eq h3
  · cases r1 with
    | nil => exact gP_rel r2 idx
    | cons _ _ => exact .nil
section
variable {X : Cx} {CX : CXT} {k : Nat} {f : Addr} {fd : FuncData} {ps ks : List Str} {sp : Sp} {E : XK} {x : Str} {p pos : Pos} {kws : List Keyword} {tk : TA} {g : List Value → List Value → List Value} {gV : List V → List V → List V}
end
end MB

set_option maxHeartbeats 4000000
namespace MB
open PySem PySem.Spec PyProof.Rows L2
def clsDef (s : Stmt) : Stmt := match s with
  | .ClassDef _ _ _ b _ _ _ _ _ _ _ => b.getD 0 (.Pass ⟨0, 0, 0, 0⟩)
  | t => t
/-! ### own exceptions as values -/
/-- at a: a caught exception, of the class cls, its dict at d -/
def KeO (a : Addr) (cls : Value) (d : Option Addr) : HO := .ext fun h => ∃ oe vs, h.get? a = some oe ∧ oe.cls = cls ∧ oe.dict = d ∧ oe.data = .fields vs
theorem keO_ok {P : Program} {w : World} {H : Hp} {h : Heap} {a : Addr} {cls : Value} {d : Option Addr} {oe : Obj} {vs : Array Value} (e : h.get? a = some oe) (hc : oe.cls = cls) (hd : oe.dict = d) (hf : oe.data = .fields vs) : ObjOk P w H h a (KeO a cls d) :=
  ⟨⟨oe, vs, e, hc, hd, hf⟩, ⟨oe, e⟩, fun h1 h2 ⟨o1, v1, q1, q2⟩ k => ⟨o1, v1, k _ q1, q2⟩⟩
/-- at a: an own exception of the class at C; with a dict that holds fs, or with none -/
inductive XAt (H : Hp) (a C : Addr) : Option (List (Str × V)) → Prop
  | full {d : Addr} {fs : List (Str × V)} : H a = some (exo a C (some d)) → H d = some (exd d fs) → XAt H a C (some fs)
  | bare : H a = some (ExO (.ref C) a) → XAt H a C none
  | kept {d : Addr} {fs : List (Str × V)} : H a = some (KeO a (.ref C) (some d)) → H d = some (exd d fs) → XAt H a C (some fs)
  | keptd {d : Addr} {fs : List (Str × V)} : H a = some (KeO a (.ref C) (some d)) → H d = some (.xd fs) → XAt H a C (some fs)
theorem XAt.same {H H' : Hp} {a C : Addr} {o : Option (List (Str × V))} (e : Same H H') (h : XAt H a C o) : XAt H' a C o := by
  cases h with
  | full h1 h2 => exact .full (e _ _ h1) (e _ _ h2)
  | bare h1 => exact .bare (e _ _ h1)
  | kept h1 h2 => exact .kept (e _ _ h1) (e _ _ h2)
  | keptd h1 h2 => exact .keptd (e _ _ h1) (e _ _ h2)
theorem keO_at {P : Program} {w : World} {H : Hp} {h : Heap} {a C : Addr} {d : Option Addr} (k : HOk P w H h) (e : H a = some (KeO a (.ref C) d)) : ∃ o vs, h.get? a = some o ∧ o.cls = .ref C ∧ o.dict = d ∧ o.data = .fields vs := by
  obtain ⟨⟨o, vs, q1, q2, q3, q4⟩, _⟩ := k a _ e
  exact ⟨o, vs, q1, q2, q3, q4⟩
section
variable {X : Cx} {pins : List (Addr × Obj)} {σ : L2.St} {H : Hp} {s : Shared}
/-- x.f -/
def tXv (K : PySem.W.Frag) (f : Str) (te : TE) : TE := fun σ H Q => te σ H fun x H1 => ∃ (a C : Addr) (fs : List (Str × V)) (v : V), x = .ref a ∧ XAt H1 a C (some fs) ∧ XfC K C ∧ PySem.W.findIn K (.ref C) f = some none ∧ fs.lookup f = some v ∧ Q v H1
theorem pe_xv {e : Expr} {te : TE} {pos : Pos} {n : Str} (he : PE X e te) (hb : attributeBase e n X.env (eval e X.env) = eval e X.env := by rfl) : PE X (.Attribute e n pos) (tXv X.K n te) := by
  refine ⟨fun pins s σ H Q I h => ?_⟩
  refine attr_of hb (thn (he.run pins s σ H _ I h) fun u s1 hh => ?_)
  obtain ⟨x, H1, I1, rx, a, C, fs, v, ex, hx, T, hno, l, q⟩ := hh
  subst ex
  obtain rfl : u = Value.ref a := rx
  cases hx with
  | @full d _ ea ed =>
    obtain ⟨t1, ho⟩ := exo_at I1.hok ea
    obtain ⟨mA, hns, hr⟩ := exd_at I1.hok ed
    obtain ⟨od, hod, hl⟩ := lookIn_ns hns
    obtain ⟨z, hz, rz⟩ := RelO.some_of (v := v) (o := mA n) (by rw [← l]; exact hr n)
    have J : PySem.W.InstAt s1.heap a _ C (some od) := ⟨ho, rfl, rfl, hod⟩
    exact HandSPX.exc_get I1.kIn J T.ga T.gg T.exC (PySem.W.findObj_own T.hdC hno rfl (by rw [hl, hz])) (handed_of rz) ⟨v, H1, I1.tok _, rz, q⟩
  | @kept d _ ea ed =>
    obtain ⟨o, vs, ho, hcl, hdc, hfd⟩ := keO_at I1.hok ea
    obtain ⟨mA, hns, hr⟩ := exd_at I1.hok ed
    obtain ⟨od, hod, hl⟩ := lookIn_ns hns
    obtain ⟨z, hz, rz⟩ := RelO.some_of (v := v) (o := mA n) (by rw [← l]; exact hr n)
    obtain ⟨oc, odc, oda, osl⟩ := o
    dsimp only at hcl hdc hfd
    subst hcl hdc hfd
    have J : PySem.W.InstAt s1.heap a _ C (some od) := ⟨ho, rfl, rfl, hod⟩
    exact HandSPX.exc_get I1.kIn J T.ga T.gg T.exC (PySem.W.findObj_own T.hdC hno rfl (by rw [hl, hz])) (handed_of rz) ⟨v, H1, I1.tok _, rz, q⟩
  | @keptd d _ ea ed =>
    obtain ⟨o, vs, ho, hcl, hdc, hfd⟩ := keO_at I1.hok ea
    obtain ⟨mA, hns, hr⟩ := (show ObjOk X.prog X.w H1 s1.heap d (.xd _) from I1.hok d _ ed)
    obtain ⟨od, hod, hl⟩ := lookIn_ns hns
    obtain ⟨z, hz, rz⟩ := RelO.some_of (v := v) (o := mA n) (by rw [← l]; exact hr n)
    obtain ⟨oc, odc, oda, osl⟩ := o
    dsimp only at hcl hdc hfd
    subst hcl hdc hfd
    have J : PySem.W.InstAt s1.heap a _ C (some od) := ⟨ho, rfl, rfl, hod⟩
    exact HandSPX.exc_get I1.kIn J T.ga T.gg T.exC (PySem.W.findObj_own T.hdC hno rfl (by rw [hl, hz])) (handed_of rz) ⟨v, H1, I1.tok _, rz, q⟩
/-- isinstance(x, c) -/
def rIsX (K : PySem.W.Frag) : List V → Hp → VK → Prop := fun xs H Q => ∃ (a C : Addr) (o : Option (List (Str × V))) (c : V) (u : Value) (b : Bool), xs = [.ref a, c] ∧ ClsV c u ∧ XAt H a C o ∧ ExcC K C ∧ PySem.W.kitOne K (.ref C) u = some b ∧ Q (.bl b) H
theorem call_isX : CallR X (.builtin "isinstance") (rIsX X.K) := by
  intro pins s σ H xs us Q I r h
  obtain ⟨a, C, o, c, u, b, rfl, k, hx, T, e, q⟩ := h
  obtain ⟨u1, u2, rfl, r1, r2⟩ := vals2 r
  have e2 := k.eq r2
  subst e2
  cases r1
  have hcl : (PySem.W.clsIn X.K C).isSome = true := by
    obtain ⟨cd, hc, _⟩ := PySem.W.any_some T.hd
    rw [hc]; rfl
  have fin : ∀ tk, EP X pins σ Q (.bool b) { s with toks := tk } := fun tk => ⟨.bl b, H, I.tok tk, rfl, q⟩
  cases hx with
  | @full d fs ea ed =>
    obtain ⟨t1, ho⟩ := exo_at I.hok ea
    obtain ⟨mA, hns, hr⟩ := exd_at I.hok ed
    obtain ⟨od, hod, hl⟩ := lookIn_ns hns
    have J : PySem.W.InstAt s.heap a _ C (some od) := ⟨ho, rfl, rfl, hod⟩
    exact PySem.W.kia_one (PySem.W.kitx_exc hcl T.hg T.hk T.hs T.ha T.hn T.ht T.hm) I.kIn J e (fun z => nomatch z) fin
  | @kept d fs ea ed =>
    obtain ⟨o, vs, ho, hc1, hdc, hfd⟩ := keO_at I.hok ea
    obtain ⟨mA, hns, hr⟩ := exd_at I.hok ed
    obtain ⟨od, hod, hl⟩ := lookIn_ns hns
    obtain ⟨oc, odc, oda, osl⟩ := o
    dsimp only at hc1 hdc hfd
    subst hc1 hdc hfd
    have J : PySem.W.InstAt s.heap a _ C (some od) := ⟨ho, rfl, rfl, hod⟩
    exact PySem.W.kia_one (PySem.W.kitx_exc hcl T.hg T.hk T.hs T.ha T.hn T.ht T.hm) I.kIn J e (fun z => nomatch z) fin
  | @keptd d fs ea ed =>
    obtain ⟨o, vs, ho, hc1, hdc, hfd⟩ := keO_at I.hok ea
    obtain ⟨mA, hns, hr⟩ := (show ObjOk X.prog X.w H s.heap d (.xd fs) from I.hok d _ ed)
    obtain ⟨od, hod, hl⟩ := lookIn_ns hns
    obtain ⟨oc, odc, oda, osl⟩ := o
    dsimp only at hc1 hdc hfd
    subst hc1 hdc hfd
    have J : PySem.W.InstAt s.heap a _ C (some od) := ⟨ho, rfl, rfl, hod⟩
    exact PySem.W.kia_one (PySem.W.kitx_exc hcl T.hg T.hk T.hs T.ha T.hn T.ht T.hm) I.kIn J e (fun z => nomatch z) fin
  | bare ea =>
    obtain ⟨⟨oe, vs, ho, hz, hd, _⟩, _⟩ := I.hok a _ ea
    have J : PySem.W.InstAt s.heap a oe C none := by
      obtain ⟨oc, od, oda, osl⟩ := oe
      obtain ⟨z1, z2⟩ := hz
      dsimp only at z1 z2 hd
      subst z1 z2 hd
      exact ⟨ho, rfl, rfl, trivial⟩
    exact PySem.W.kia_one (PySem.W.kitx_exc hcl T.hg T.hk T.hs T.ha T.hn T.ht T.hm) I.kIn J e (fun z => nomatch z) fin
/-- C(e), the class's own __init__ keeping sp: the object stands -/
def tMkX (C : Addr) (sp : Sp) (ta : TA) : TE := fun σ H Q => ta σ H fun vs H1 => vs.length ≤ 1000 ∧ ∀ a, H1 a = none → sp (.ref a :: vs) (upd H1 a (exo a C none)) (fun v H2 => v = .non ∧ Q (.ref a) H2) E0
theorem pe_mkX {x : Str} {C fI : Addr} {k : Nat} {fd : FuncData} {ps : List Str} {sp : Sp} {e : Expr} {es : List Expr} {ta : TA} {p pos : Pos} (T : OexC X.K C) (iC : PySem.W.findIn X.K (.ref C) "__init__" = some (some (.ref fI))) (tI : PySem.W.typeIn X.K (.ref fI) = some (.type "function"))
    (F1 : FnOk X.prog X.w X.K X.mg X.base CX0 k fI fd ps sp) (hr : Room (k + 1) X.A) (hb : Binds X.K fd ps []) (hg : Gl X x) (hm : X.mg x = some (.ref C)) (ha : PA X (e :: es) ta) (hx : Passes CX0 X E0)
    (hdb : (x == ("__debug__" : Str)) = false := by decide) (he : starEach (e :: es) X.env = (false, eval e X.env) :: starEach es X.env := by rfl) (hpl : (backTo pos (starEach es X.env)).any (·.1) = false := by rfl) :
    PE X (.Call (.Name x p) (e :: es) [] pos) (tMkX C sp ta) := by
  refine ⟨fun pins s σ H Q I h => ?_⟩
  obtain ⟨nm, qn, N, bs, bm, sn, sub, ab, col, dd, k0, k1, k2, k3, k5, hC, hbm⟩ := T.cls
  refine wpAny_Call_Name_kw (ld_glob I hg hm ?_ hdb)
  refine PySem.W.callWith_K (h₀ := X.base) I.ok.mod.kin T.kC (thn (ha.run pos pins s σ H _ I h) fun us s1 ⟨vs, H1, I1, r1, hz, q1⟩ => ⟨I1.kIn, ?_⟩) he hpl
  show wpAny _ _ (call (.ref C) us) _ _ _
  obtain ⟨hp, gs, dr, tk, os⟩ := s1
  have fresh : H1 (hp.objs.size + 1) = none := I1.hok.fresh (Nat.le_succ _)
  have hq := q1 _ fresh
  have there : ((hp.push (PySem.W.kdv_tup us)).push (PySem.HandSPX.excO C hp.objs.size)).get? (hp.objs.size + 1) = some (PySem.HandSPX.excO C hp.objs.size) := by heap_get
  have J : Inv X pins σ (upd H1 (hp.objs.size + 1) (exo (hp.objs.size + 1) C none)) ⟨(hp.push (PySem.W.kdv_tup us)).push (PySem.HandSPX.excO C hp.objs.size), gs, dr, tk, os⟩ :=
    I1.laid (t' := tk) (fun b o z => Heap.get?_push_of_some _ (Heap.get?_push_of_some _ z)) (Nat.le_succ _) (exo_ok there)
  have r2 : Vals (V.ref (hp.objs.size + 1) :: vs) (Value.ref (hp.objs.size + 1) :: us) := .cons rfl r1
  have hl : (Value.ref (hp.objs.size + 1) :: us).length = ps.length := r2.length.symm.trans (F1.len _ _ _ _ hq)
  have hus : us.length ≤ sizeLine := by rw [← Paired.length r1, sizeLine_eq]; omega
  have bnd := hb ⟨(hp.push (PySem.W.kdv_tup us)).push (PySem.HandSPX.excO C hp.objs.size), gs, dr, tk, os⟩ (Value.ref (hp.objs.size + 1) :: us) J.kIn (by rw [List.append_nil]; exact hl)
  rw [List.append_nil] at bnd
  refine wpAny_call (PySem.HandSPX.call_own F.excBase_ValueError (fun Y => PySem.HandSPX.refsVE_contains Y bm hbm) (I1.kIn _ _ hC) (PySem.W.looks_findIn I1.kIn iC) (fun self => PySem.W.bind_fn I1.kIn self tI) hus
    (codeAny_mono (F1.run _ X.stack _ _ ⟨Value.ref (hp.objs.size + 1) :: us, []⟩ (Value.ref (hp.objs.size + 1) :: us) _ _ E0 (hr.make C us []) (J.env0.make C us []) bnd r2 hq) fun res s' back => ?_))
  rcases res with er | fl
  · exact hx pins σ _ _ er s' J back
  · rcases fl with _ | _ | _ | u
    · exact False.elim back
    · exact False.elim back
    · exact False.elim back
    · obtain ⟨v, H2, J2, rv, ev, q2⟩ := J.after back
      subst ev
      exact ⟨rv, ⟨V.ref (hp.objs.size + 1), H2, J2, rfl, q2⟩⟩
/-- C(), a class without own __init__ -/
theorem pe_exc0 {C : Addr} {bmB : List Value} {B newId initId : String} {x : Str} {p pos : Pos} (F : ExcBaseFacts B newId initId bmB) (hi : PySem.W.excIn X.K C bmB newId = true) (gC : X.mg x = some (.ref C)) (kC : PySem.W.keepIn X.K (.ref C) = true) (hg : Gl X x) (hdb : (x == ("__debug__" : Str)) = false := by decide) :
    PE X (.Call (.Name x p) [] [] pos) (fun _ H Q => ∀ a, H a = none → Q (.ref a) (upd H a (ExO (.ref C) a))) := by
  refine ⟨fun pins s σ H Q I h => ?_⟩
  refine wpAny_Call_Name_kw (ld_glob I hg gC ?_ hdb)
  refine PySem.W.callWith_K0 I.kIn kC ?_
  show wpAny _ _ (call (.ref C) []) _ _ _
  obtain ⟨bm, N, nm, qn, bs, hdct, sn, sub, ab, col, dd, k0, k1, k2, k3, k5, mN, hC, hN, hni, T⟩ := exc_obj I.kIn hi
  refine wpAny_call_exc_subT F T hC hN hni (fun h' a hm => ?_) (by show 0 ≤ sizeLine; exact Nat.zero_le _)
  have gone : H a = none := I.hok.gone hm.new
  obtain ⟨t, ht, _, _⟩ := hm.there
  exact ⟨.ref a, upd H a (ExO (.ref C) a), I.laidN hm.keeps hm.new gone (exO_ok ht ⟨rfl, rfl⟩ rfl rfl rfl (by simp)), rfl, h a gone⟩
/-- self.value = value, the whole of an __init__ -/
def sp_init (K : PySem.W.Frag) (C : Addr) (f : Str) : Sp := fun vs H Q _ => ∃ (a : Addr) (y : V), vs = [.ref a, y] ∧ H a = some (exo a C none) ∧ ∀ dx, H dx = none → dx ≠ a → Q .non (upd (upd H dx (exd dx [(f, y)])) a (exo a C (some dx)))
/-- C(e) read by what stands behind it -/
theorem mkX_read {K : PySem.W.Frag} {C : Addr} {f : Str} {ta : TA} {σ : L2.St} {H : Hp} {Q : VK} (h : ta σ H fun vs H1 => ∃ y, vs = [y] ∧ ∀ a H2, Same H1 H2 → H1 a = none → XAt H2 a C (some [(f, y)]) → Q (.ref a) H2)
    (mono : ∀ (R R' : List V → Hp → Prop), (∀ vs H1, R vs H1 → R' vs H1) → ta σ H R → ta σ H R') : tMkX C (sp_init K C f) ta σ H Q := by
  refine mono _ _ ?_ h
  rintro vs H1 ⟨y, rfl, q⟩
  refine ⟨by simp, fun a na => ⟨a, y, rfl, upd_same, fun dx ndx ne => ⟨rfl, q a _ ?_ na (.full upd_same ?_)⟩⟩⟩
  · intro b o eb
    have h1 : b ≠ a := ne_of_none eb na
    have h2 : (upd H1 a (exo a C none)) b = some o := by rw [upd_ne h1]; exact eb
    rw [upd_ne h1, upd_ne (ne_of_none h2 ndx), upd_ne h1]
    exact eb
  · rw [upd_ne ne]; exact upd_same
end
end MB

set_option maxHeartbeats 4000000
namespace MB
open PySem PySem.Spec PyProof.Rows L2
/-- the thing at sysModules, tracked as it stands: a new thing then stands elsewhere -/
def sysO (oY : Obj) : HO := .frz oY (.ext fun h => h.get? sysModules = some oY)
theorem law_callS {P : Program} {w : World} {K : PySem.W.Frag} {mg mb : Str → Option Value} {k : Nat} {fa a : Addr} {fd : FuncData} {x : Str} {sp : Sp} {s₁ : Shared} {vs : List Value} {ns : List Int} {oY : Obj}
    (hKs : K.lookup sysModules = none) (hsy : s₁.heap.get? sysModules = some oY) (hna : a ≠ sysModules) (KX : K.In s₁.heap) (hns : s₁.heap.Ns mainGlobals mg) (hb : s₁.heap.Ns builtinsNs mb)
    (hbb : ∀ x : Str, x ≠ "__name__" → mb x = bootBuiltins x) (hlim : s₁.heap.NoLimit) (hg : s₁.gens = #[])
    (ha : s₁.heap.get? a = some { cls := .type "list", data := .seq vs.toArray }) (hi : IntsAre vs ns) (hl : ns.length ≤ sizeLine) (hr : Room k callerA)
    (F : ∀ base : Heap, K.In base → base.Ns mainGlobals mg → FnG P w K mg base CX0 k fa fd [x] sp) (hbind : ∀ (s : Shared) (u : Value), BindsTo s fd ⟨[u], []⟩ [(x, u)])
    (hsp : ∀ (H : Hp) (o : HO), SqL K H a (ns.map V.int) → H sysModules = some o → sp [.ref a] H (fun v _ => v = .bl true) fun _ _ _ => False) :
    codeAny (model P w) callerA (.call (.ref fa) ⟨[.ref a], []⟩) (fun r s' => r = .ok (.ret (.bool true)) ∧ OldK s₁.heap s'.heap ∧ s'.os = s₁.os ∧ AllBare s'.gens) s₁ := by
  let oS : Obj := { cls := .type "list", data := .seq vs.toArray }
  let H : Hp := fun b => if b = a ∧ K.lookup a = none then some (.frz oS (.lst (ns.map V.int))) else if b = sysModules then some (sysO oY) else none
  have Ha : K.lookup a = none → H a = some (.frz oS (.lst (ns.map V.int))) := fun hk => if_pos ⟨rfl, hk⟩
  have Hy : H sysModules = some (sysO oY) := (if_neg fun z => hna z.1.symm).trans (if_pos rfl)
  have rv := vals_ints hi
  have Hsome : ∀ {b : Addr} {o : HO}, H b = some o → (b = a ∧ o = .frz oS (.lst (ns.map V.int))) ∨ (b = sysModules ∧ o = sysO oY) := fun {b o} e => by
    by_cases c : b = a ∧ K.lookup a = none
    · have e' := (if_pos c).symm.trans e
      exact .inl ⟨c.1, (Option.some.inj e').symm⟩
    · by_cases c2 : b = sysModules
      · rw [c2, Hy] at e; exact .inr ⟨c2, (Option.some.inj e).symm⟩
      · have e' : H b = none := (if_neg c).trans (if_neg c2)
        rw [e'] at e; cases e
  have hfree : ∀ {b : Addr}, (b = a → K.lookup a ≠ none) → b ≠ sysModules → H b = none := fun {b} c c2 => (if_neg fun z => c z.1 z.2).trans (if_neg c2)
  have hS : SqL K H a (ns.map V.int) := by
    cases hk : K.lookup a with
    | none => exact .inl (.inr ⟨oS, Ha hk⟩)
    | some o =>
      have e := (KX a o hk).symm.trans ha
      cases e
      exact .inr ⟨_, vs.toArray, _, hk, rfl, rfl, rfl, by rw [List.size_toArray, hi.length]; exact hl, by simpa using rv⟩
  have hok : HOk P w H s₁.heap := fun b o e => by
    rcases Hsome e with ⟨rfl, rfl⟩ | ⟨rfl, rfl⟩
    · exact ⟨ha, by rw [List.length_map]; exact hl, vs, _, rv, ha⟩
    · exact ⟨hsy, hsy, ⟨_, hsy⟩, fun h1 h2 z kk => kk _ z⟩
  have notA : ∀ {b : Addr} {m : Str → Option Value}, s₁.heap.Ns b m → b ≠ a := fun {b m} ⟨o, es, ep, e, d, r⟩ z => by
    rw [z, ha] at e; cases e; cases d
  have ns_hid : ∀ {b : Addr} {m : Str → Option Value}, b ≠ sysModules → s₁.heap.Ns b m → (hidT s₁.heap H).Ns b m := fun {b m} hb x => by
    have h1 := notA x
    obtain ⟨o, es, ep, e, d, r⟩ := x
    exact ⟨o, es, ep, hidT_get e (hfree (fun z => absurd z h1) hb), d, r⟩
  have hKb : K.In (hidT s₁.heap H) := fun b o e => hidT_get (KX b o e) (hfree (fun z => by rw [z] at e; rw [e]; exact fun y => nomatch y) (fun z => by rw [z, hKs] at e; cases e))
  have hM : Mod K mg (hidT s₁.heap H) := ⟨hKb, ns_hid (by decide) hns, ⟨mb, ns_hid (by decide) hb, hbb⟩, let ⟨mc, h1, h2⟩ := hlim; ⟨mc, ns_hid (by decide) h1, h2⟩⟩
  have e0 : Env0 P w K mg (hidT s₁.heap H) callerA [] s₁ H := ⟨rfl, hM, fun b o e => of_hidT e, Nat.le_of_eq (hidT_size _ _), trivial, (fun b hb => absurd (show b ∈ ([] : List Addr) from hb) (by simp)), hok, .of_eq hg⟩
  refine codeAny_mono ((F _ hKb (ns_hid (by decide) hns)).run callerA rfl hr [] s₁ H ⟨[.ref a], []⟩ [.ref a] [.ref a] _ _ e0 (hbind s₁ (.ref a)) (.cons rfl .nil) (hsp H _ hS Hy)) fun r s' h => ?_
  rcases r with e | fl
  · exact False.elim h
  rcases fl with _ | _ | _ | u
  · exact False.elim h
  · exact False.elim h
  · exact False.elim h
  obtain ⟨v, H', os, bare, un, hok', r', q⟩ := h
  have q' : v = .bl true := q
  subst q'
  obtain rfl : u = Value.bool true := r'
  refine ⟨rfl, OldK.of_keep fun b o e => ?_, os, bare⟩
  cases hb' : H b with
  | none => exact un.keep b o e hb' (fun z => absurd (show b ∈ ([] : List Addr) from z) (by simp)) (by simp)
  | some u =>
    rcases Hsome hb' with ⟨rfl, rfl⟩ | ⟨rfl, rfl⟩
    · have e2 := (hok' _ _ (un.frzs _ oS _ hb')).1
      rw [ha] at e
      cases e
      exact e2
    · have e2 := (hok' _ _ (un.frzs _ oY _ hb')).1
      rw [hsy] at e
      cases e
      exact e2
theorem walk_ofS {l : PySem.W.OpenLaw} {n k : Nat} {q : Program} {loose : List Str} {XP : (Str → Option Value) → Heap → Prop} {YP : World → Heap → Prop} {d : DefRec} {K : Params → PySem.W.Frag} {sp : PySem.W.Frag → Sp} {x : Str}
    (hn : l.most = some n) (hn2 : n ≤ sizeLine) (hdf : d.params.defaults = []) (hr : Room k callerA) (him : importsNone q = true) (hKs : ∀ p, (K p).lookup sysModules = none)
    (hY : ∀ (w : World) (h : Heap), YP w h → (K w.params).In h)
    (F : ∀ (w : World) (mg : Str → Option Value) (fa : Addr) (h : Heap), (K w.params).In h → h.Ns mainGlobals mg → mg d.name = some (.ref fa) →
      ∃ fd : FuncData, (∀ (s : Shared) (u : Value), BindsTo s fd ⟨[u], []⟩ [(x, u)]) ∧
        ∀ base : Heap, (K w.params).In base → base.Ns mainGlobals mg → FnG l.prog w (K w.params) mg base CX0 k fa fd [x] (sp (K w.params)))
    (hsp : ∀ (K : PySem.W.Frag) (H : Hp) (a : Addr) (ns : List Int) (o : HO), ns.length ≤ n → SqL K H a (ns.map V.int) → H sysModules = some o → sp K [.ref a] H (fun v _ => v = .bl true) fun _ _ _ => False) :
    PySem.W.WalkO q loose XP YP l.row.toRowW d [] (fun f vs => PySem.call f vs) :=
  Att.attach_call hn hdf fun w s₀ s₁ mg mb fa o pm cd doc a vs ns G Y ho hd hcd hmg hobj hints hlen hg =>
    have KX := hY w _ Y
    let ⟨fd, hb, hF⟩ := F w mg fa _ KX G.T.g hmg
    let ⟨mm, hmm, _⟩ := (G.T.seer him).mods
    let ⟨oY, es, ep, eY, dY, _⟩ := hmm
    law_callS (hKs w.params) eY (fun z => by rw [z, eY] at hobj; cases hobj; cases dY) KX G.T.g G.T.b G.T.builtins G.T.nolimit hg hobj hints (Nat.le_trans hlen hn2) hr hF hb fun H o hS hy => hsp _ H a ns o hlen hS hy
end MB

set_option maxHeartbeats 4000000
namespace MB
open PySem PySem.Spec PyProof.Rows L2
/-! ### facts of own exception classes, each as one truth value -/
def excB (K : PySem.W.Frag) (D : Addr) : Bool :=
  decide (PySem.W.findIn K (.ref D) "__getattribute__" = some (some (.builtin "BaseException.__getattribute__"))) && (decide (PySem.W.findIn K (.ref D) "__getattr__" = some none) && (decide (PySem.W.subIn K (.ref D) (.type "BaseException") = some true) && (PySem.W.hasDictIn K D &&
  (decide (PySem.W.findIn K (.ref D) "__class__" = some (some (.builtin "object.__class__"))) && (decide (PySem.W.specialIn K (.builtin "object.__class__") "__get__" = some (some (.builtin "getset_descriptor.__get__"))) && (decide (PySem.W.takesIn K (.builtin "object.__class__") = some true) && decide (PySem.W.mroIn K D (.type "object") = some true)))))))
theorem excB_ok {K : PySem.W.Frag} {D : Addr} (h : excB K D = true) : ExcC K D ∧ XfC K D := by
  unfold excB at h
  simp only [Bool.and_eq_true, decide_eq_true_eq] at h
  obtain ⟨h1, h2, h3, h4, h5, h6, h7, h8⟩ := h
  exact ⟨⟨h1, h2, h3, h4, h5, h6, h7, h8⟩, ⟨h1, h2, h3, h4⟩⟩
def oexB (K : PySem.W.Frag) (C fI : Addr) (f : Str) : Bool :=
  decide (PySem.W.findIn K (.ref C) "__setattr__" = some (some (.builtin "object.__setattr__"))) && (decide (PySem.W.subIn K (.ref C) (.type "BaseException") = some true) && (decide (PySem.W.typeIn K (.ref C) = some (.type "type")) && (PySem.W.keepIn K (.ref C) &&
  (decide (PySem.W.findIn K (.ref C) f = some none) && (decide (PySem.W.typeIn K (.ref fI) = some (.type "function")))))))
theorem oexB_ok {K : PySem.W.Frag} {C fI : Addr} {f : Str} (h : oexB K C fI f = true) : PySem.W.findIn K (.ref C) "__setattr__" = some (some (.builtin "object.__setattr__")) ∧ PySem.W.subIn K (.ref C) (.type "BaseException") = some true ∧ PySem.W.typeIn K (.ref C) = some (.type "type") ∧ PySem.W.keepIn K (.ref C) = true ∧ PySem.W.findIn K (.ref C) f = some none ∧ PySem.W.typeIn K (.ref fI) = some (.type "function") := by
  unfold oexB at h
  simpa only [Bool.and_eq_true, decide_eq_true_eq] using h
/-- each is an instance of itself alone among them, of the base m, and of ValueError -/
def kitB (K : PySem.W.Frag) (cs : List Addr) (m : Addr) : Bool :=
  cs.all fun c => (cs.all fun d => decide (PySem.W.kitOne K (.ref c) (.ref d) = some (c == d))) && (decide (PySem.W.kitOne K (.ref c) (.ref m) = some true) && decide (PySem.W.kitOne K (.ref c) (.type "ValueError") = some true))
theorem kitB_ok {K : PySem.W.Frag} {cs : List Addr} {m : Addr} (h : kitB K cs m = true) {c : Addr} (hc : c ∈ cs) : (∀ d, d ∈ cs → PySem.W.kitOne K (.ref c) (.ref d) = some (c == d)) ∧ PySem.W.kitOne K (.ref c) (.ref m) = some true ∧ PySem.W.kitOne K (.ref c) (.type "ValueError") = some true := by
  unfold kitB at h
  have h1 := List.all_eq_true.mp h c hc
  simp only [Bool.and_eq_true, decide_eq_true_eq, List.all_eq_true] at h1
  exact h1
def nodupB (cs : List Addr) : Bool := decide cs.Nodup

/-- the same from the lines of ancestors alone -/
def kitT (l : List (Addr × List Value)) (m : Addr) : Bool :=
  l.all fun c => !c.2.isEmpty && ((l.all fun d => decide ((c.1 = d.1 ∨ c.2.contains (.ref d.1) = false))) && (c.2.contains (.ref m) && c.2.contains (.type "ValueError")))
theorem kitOne_self {K : PySem.W.Frag} {v : Value} : PySem.W.kitOne K v v = some true := by
  unfold PySem.W.kitOne
  rw [if_pos (beq_self_eq_true v)]
theorem kitOne_ref {K : PySem.W.Frag} {c d : Addr} {cd dd : ClassData} (hn : c ≠ d) (h : PySem.W.clsIn K c = some cd) (he : cd.mro.isEmpty = false) (g : PySem.W.clsIn K d = some dd) (gt : PySem.W.typeIn K (.ref d) = some (.type "type")) :
    PySem.W.kitOne K (.ref c) (.ref d) = some (cd.mro.contains (.ref d)) := by
  unfold PySem.W.kitOne
  have e : ¬ ((Value.ref c == Value.ref d) = true) := fun z => by
    have z2 : Value.ref c = Value.ref d := beq_iff_eq.mp z
    cases z2; exact hn rfl
  rw [if_neg e]
  unfold PySem.W.kitCls
  dsimp only
  rw [g, gt, if_pos (by simp)]
  show PySem.W.mroIn K c (.ref d) = _
  unfold PySem.W.mroIn
  rw [h]
  show (if cd.mro.isEmpty = true then none else some (cd.mro.contains (.ref d))) = _
  rw [he]; rfl
theorem kitOne_ve {K : PySem.W.Frag} {c : Addr} {cd : ClassData} (h : PySem.W.clsIn K c = some cd) (he : cd.mro.isEmpty = false) :
    PySem.W.kitOne K (.ref c) (.type "ValueError") = some (cd.mro.contains (.type "ValueError")) := by
  unfold PySem.W.kitOne
  have e : ¬ ((Value.ref c == Value.type "ValueError") = true) := fun z => by
    have z2 : Value.ref c = Value.type "ValueError" := beq_iff_eq.mp z
    cases z2
  rw [if_neg e]
  unfold PySem.W.kitCls
  dsimp only
  rw [if_pos (by decide +kernel)]
  show PySem.W.mroIn K c (.type "ValueError") = _
  unfold PySem.W.mroIn
  rw [h]
  show (if cd.mro.isEmpty = true then none else some (cd.mro.contains (.type "ValueError"))) = _
  rw [he]; rfl
theorem kitB_mk {K : PySem.W.Frag} {m : Addr} {md : ClassData} (l : List (Addr × ClassData)) (h : ∀ p, p ∈ l → PySem.W.clsIn K p.1 = some p.2 ∧ PySem.W.typeIn K (.ref p.1) = some (.type "type"))
    (hm : PySem.W.clsIn K m = some md) (tm : PySem.W.typeIn K (.ref m) = some (.type "type")) (t : kitT (l.map fun p => (p.1, p.2.mro)) m = true) : kitB K (l.map (·.1)) m = true := by
  unfold kitB
  unfold kitT at t
  rw [List.all_eq_true] at t ⊢
  intro c hc
  obtain ⟨p, hp, rfl⟩ := List.mem_map.mp hc
  have tp := t _ (List.mem_map.mpr ⟨p, hp, rfl⟩)
  simp only [Bool.and_eq_true, decide_eq_true_eq, List.all_eq_true] at tp
  obtain ⟨t1, t2, t3, t4⟩ := tp
  have t1' : p.2.mro.isEmpty = false := by simpa using t1
  simp only [Bool.and_eq_true, decide_eq_true_eq, List.all_eq_true]
  refine ⟨fun d hd => ?_, ?_, ?_⟩
  · obtain ⟨q, hq, rfl⟩ := List.mem_map.mp hd
    by_cases z : p.1 = q.1
    · rw [z, kitOne_self]; simp
    · have := t2 _ (List.mem_map.mpr ⟨q, hq, rfl⟩)
      rcases this with e | e
      · exact absurd e z
      · rw [kitOne_ref z (h p hp).1 t1' (h q hq).1 (h q hq).2, e]
        have : (p.1 == q.1) = false := by simpa using z
        rw [this]
  · by_cases z : p.1 = m
    · rw [z, kitOne_self]
    · rw [kitOne_ref z (h p hp).1 t1' hm tm, t3]
  · rw [kitOne_ve (h p hp).1 t1', t4]
end MB

set_option maxHeartbeats 4000000
namespace MB
open PySem PySem.Spec PyProof.Rows L2
/-! ### a caught exception is kept: its object comes among what is tracked -/
theorem inv_adopt {X : Cx} {pins : List (Addr × Obj)} {σ : L2.St} {H : Hp} {s : Shared} {a : Addr} {o : HO} (I : Inv X pins σ H s)
    (na : H a = none) (n0 : a ∉ X.ex → X.s_0.heap.get? a = none) (nL : a ≠ X.env.locals) (nC : ∀ x c, X.env.cells.lookup x = some c → c ≠ a) (nP : ∀ p ∈ X.pn ++ pins, p.1 ≠ a)
    (new : ObjOk X.prog X.w (upd H a o) s.heap a o) : Inv X pins σ (upd H a o) s := by
  have ne : ∀ b u, H b = some u → b ≠ a := fun b u q z => by rw [z, na] at q; cases q
  have up : ∀ b u, H b = some u → upd H a o b = some u := fun b u q => by rw [upd_ne (ne b u q)]; exact q
  have no : ∀ b, b ≠ a → H b = none → upd H a o b = none := fun b z q => by rw [upd_ne z]; exact q
  have B := I.base
  refine ⟨I.ok, I.os, I.bare, ⟨B.keep, B.slot, fun b ob q n x => ?_, B.there, fun b xs q => up _ _ (B.tups b xs q), fun b ob u q => up _ _ (B.frzs b ob u q), fun b ps q => ?_⟩, I.loc, I.cell, no _ (Ne.symm nL) I.free, fun x c q => no _ (nC x c q) (I.freeC x c q), fun p hp => ?_, fun b u q => ?_, I.len⟩
  · refine no _ (fun z => ?_) (B.free b ob q n x)
    rw [z] at q x
    rw [n0 x] at q; cases q
  · obtain ⟨more, e⟩ := B.tbls b ps q
    exact ⟨more, up _ _ e⟩
  · obtain ⟨p1, p2, p3⟩ := I.pin p hp
    exact ⟨p1, no _ (nP p hp) p2, p3⟩
  · by_cases z : b = a
    · rw [z, upd_same] at q
      cases q
      rw [z]
      exact new
    · rw [upd_ne z] at q
      exact (I.hok b u q).stay (fun c v _ e => e) (fun c e => up c _ e) fun c _ e => up c _ e

/-- what the catch wishes: the class is one that is caught; behind the suite the error stays, tracked -/
def wKept (K : PySem.W.Frag) (c : Value) (i : Nat) (ts : Addr → Value → Option Addr → TS) (D : Ends) : WX := fun cls d σ H =>
  PySem.W.exmOne K cls c = some true ∧ ∀ a, H a = none →
    ts a cls d { nx := fun σ' H' => D.nx (σ'.set i none) (upd H' a (KeO a cls d)), rt := fun _ _ => False, bk := fun _ _ => False, ct := fun _ _ => False } (σ.set i (some (.ref a))) H
section
variable {X : Cx} {x n : Str} {c : Value} {i : Nat} {body more : List Stmt} {st : Stmt} {np pos pos' : Pos} {tb : WX → TS} {ts : Addr → Value → Option Addr → TS}
theorem ps_try_kept (hst : X.stack = X.env :: X.outer) (hfm : X.env.frame = some X.env.locals)
    (hN : X.N.Nodup) (hi : X.N[i]? = some n)
    (hln : X.env.kindOf n = some .local) (hc : Names X x c)
    (hb : ∀ (W : WX) (pn : List (Addr × Obj)) (xe : Value → Shared → Prop), Takes (X.tr pn xe) W →
      PassesOwn (model X.prog X.w) X.A X.env xe → PSs (X.tr pn xe) body (tb W))
    (hsu : ∀ (a : Addr) (oe : Obj) (cls : Value) (d : Option Addr) (pn : List (Addr × Obj)), Zc cls d oe →
      (∃ vs, oe.data = .fields vs) → PSs (X.suite a ((a, oe) :: pn)) (st :: more) (ts a cls d)) :
    PS X (.Try body [.ExceptHandler (some (.Name x np)) (some n) (st :: more) pos'] [] [] pos)
      (fun D σ H => tb (wKept X.K c i ts D) D σ H) := by
  refine ⟨fun pins s σ H D I h => ?_⟩
  have okX := I.ok
  have frm : X.A.frames = some (X.env :: X.outer) := by rw [okX.frames, hst]
  refine wpAny_Try_except (wpAny_mono ((hb (wKept X.K c i ts D) (X.pn ++ pins) _ (fun u s1 xx => ?_) PassesOwn.looking).run [] s σ H D (I.toTry _) h) (fun f s1 q => ?_) (fun e s1 q => q))
  · obtain ⟨a, B, sI, pins', σ1, H1, cls, d, rfl, Jt, nb, up, sky, na, os, ag, hyes, hts⟩ := xx
    have J : Inv X pins σ1 H1 sI := Jt.ofTry okX
    rw [show (X.tr (X.pn ++ pins) _).stack = X.env :: X.outer from hst] at sky
    show wpAny (model X.prog X.w) X.A (noteFrame (.ref a) X.env) _ _ _
    refine Sky.land Zc.steady frm hfm sky fun h2 fl up2 => ?_
    have J2 : Inv X pins σ1 H1 { s1 with heap := h2 } := J.landed nb fl.1 (up.trans up2) os ag
    have Bn : B.get? a = none := fl.2.1
    obtain ⟨o2, vs2, g2, z2, d2⟩ := fl.there
    have offF : a ∉ frs (X.env :: X.outer) := fun hm => by
      obtain ⟨_, o', e', hnf⟩ := fl.2.2.1.mem hm
      rw [g2] at e'; cases e'
      exact hnf _ d2
    have offL : a ≠ X.env.locals := fun z => offF (List.mem_filterMap.mpr ⟨X.env, List.mem_cons_self, by rw [hfm, z]⟩)
    have offO : a ∉ X.fs := fun hm => by
      obtain ⟨e, he, q⟩ := List.mem_filterMap.mp hm
      exact offF (List.mem_filterMap.mpr ⟨e, List.mem_cons_of_mem _ he, q⟩)
    have offI : ∀ o, sI.heap.get? a = some o → False := fun o e => by
      have := nb a o e (by show a ∉ frs X.stack; rw [hst]; exact offF)
      rw [Bn] at this; cases this
    have n0 : a ∉ X.ex → X.s_0.heap.get? a = none := fun hx => by
      cases e : X.s_0.heap.get? a with
      | none => rfl
      | some o =>
        obtain ⟨o', e'⟩ := J.base.there a o e hx
        exact (offI _ e').elim
    have nC : ∀ x c, X.env.cells.lookup x = some c → c ≠ a := fun x c e z => by
      obtain ⟨v, q⟩ := J.cell x c e
      rw [z] at q
      obtain ⟨o, q1, _⟩ := q
      exact offI _ q1
    have nP : ∀ p ∈ X.pn ++ pins, p.1 ≠ a := fun p hp z => by
      have q := (J.pin p hp).1
      rw [z] at q
      exact offI _ q
    have S2 := J2.suite g2 d2 na offL offO
    refine wpAny_handleBy_cons (codeAny_handlers_test ?_) (by intro q; cases q)
    have ty : PySem.W.Looks (model X.prog X.w) h2 (typeOf (.ref a)) cls := fun _ _ _ _ k q =>
      wpAny_typeOf_ref (k _ _ g2) (by rw [z2.1]; exact q)
    have look := PySem.W.exm_one (M := model X.prog X.w) J2.kIn ty hyes
    have nam : ∀ {Q E : Value → Shared → Prop}, Q c { s1 with heap := h2 } →
        wpAny (model X.prog X.w) (X.A.mark (some (.ref a))) (eval (.Name x np) X.env) Q E { s1 with heap := h2 } := fun {Q E} q => by
      rcases hc with ⟨hg, hdb, hm | ⟨hm, hv, hnn⟩⟩
      · exact ld_glob (X := X.suite a ((a, o2) :: (X.pn ++ pins))) S2 hg hm q hdb
      · exact ld_blt (X := X.suite a ((a, o2) :: (X.pn ++ pins))) S2 hg hm hv q hnn hdb
    refine nam (look.here (codeAny_handlers_suite_as (HandSPX.lands_againZ fl fun h3 fl3 up3 => ?_)))
    have J3 : Inv X pins σ1 H1 { s1 with heap := h3 } := J.landed nb fl3.1 ((up.trans up2).trans up3) os ag
    obtain ⟨o3, vs3, g3, z3, d3⟩ := fl3.there
    have S3 := J3.suite g3 d3 na offL offO
    refine store_ok (X := X.suite a ((a, o3) :: (X.pn ++ pins))) (v := .ref a) S3 hN hi (.inl hln) rfl (fun s4 S4 => ?_) (.inr hln)
    refine wpAny_mono ((hsu a o3 cls d (X.pn ++ pins) z3 ⟨_, d3⟩).run [] s4 _ H1 _ S4 (hts a na)) (fun f s5 q => ?_) (fun _ _ z => z.elim)
    cases f with
    | next =>
      obtain ⟨σ5, H5, S5, q5⟩ := q
      obtain ⟨g5, n5, _⟩ := S5.pin (a, o3) (by simp [Cx.suite])
      exact gone_ok (inv_adopt (S5.unsuite okX) n5 n0 offL nC nP (keO_ok g5 z3.1 z3.2 d3)) hN hi hln fun s6 J6 => ⟨_, _, J6, q5⟩
    | brk => obtain ⟨_, _, _, z⟩ := q; exact z.elim
    | cont => obtain ⟨_, _, _, z⟩ := q; exact z.elim
    | ret u => obtain ⟨_, _, _, _, _, z⟩ := q; exact z.elim
  · cases f with
    | next => obtain ⟨_, _, J, z⟩ := q; exact wpAny_execs_nil ⟨_, _, J.ofTry okX, z⟩
    | brk => obtain ⟨_, _, J, z⟩ := q; exact ⟨_, _, J.ofTry okX, z⟩
    | cont => obtain ⟨_, _, J, z⟩ := q; exact ⟨_, _, J.ofTry okX, z⟩
    | ret u => obtain ⟨_, _, _, J, r, z⟩ := q; exact ⟨_, _, _, J.ofTry okX, r, z⟩
end
end MB

set_option maxHeartbeats 4000000
namespace MB
open PySem PySem.Spec PyProof.Rows L2
/-- a law's call: no repr is under way, sysModules is tracked, and so are the tables ts of code objects (cs: code object and table) -/
theorem law_callT {P : Program} {w : World} {K : PySem.W.Frag} {mg mb : Str → Option Value} {k : Nat} {fa a : Addr} {fd : FuncData} {x : Str} {sp : Sp} {s₁ : Shared} {vs : List Value} {ns : List Int} {oY : Obj} {cs : List (Addr × Addr)}
    (hKs : K.lookup sysModules = none) (hsy : s₁.heap.get? sysModules = some oY) (hyT : ∀ p ∈ cs, p.2 ≠ sysModules) (hna : a ≠ sysModules) (KX : K.In s₁.heap) (hns : s₁.heap.Ns mainGlobals mg) (hb : s₁.heap.Ns builtinsNs mb)
    (hbb : ∀ x : Str, x ≠ "__name__" → mb x = bootBuiltins x) (hlim : s₁.heap.NoLimit) (hg : s₁.gens = #[])
    (hT : ∀ p ∈ cs, s₁.heap.get? p.2 = some { cls := .none, data := .fields #[] }) (nT : ∀ p ∈ cs, K.lookup p.2 = none) (hC : ∀ p ∈ cs, PySem.W.CodeHd s₁.heap p.1 p.2) (hCy : ∀ p ∈ cs, p.1 ≠ sysModules)
    (hbm : ∃ (bm : Addr) (ob : Obj), mg "__builtins__" = some (.ref bm) ∧ bm ≠ builtinsNs ∧ s₁.heap.get? bm = some ob ∧ ob.cls = .type "module" ∧ ob.dict = some builtinsNs ∧ ob.data = .plain)
    (hyd : ∃ es ep, oY.data = .dict es ep)
    (ha : s₁.heap.get? a = some { cls := .type "list", data := .seq vs.toArray }) (hi : IntsAre vs ns) (hl : ns.length ≤ sizeLine) (hr : Room k callerA)
    (F : ∀ base : Heap, K.In base → base.Ns mainGlobals mg → (∀ p ∈ cs, LamX.TabB base mg p.1 p.2) → FnG P w K mg base CX0 k fa fd [x] sp) (hbind : ∀ (s : Shared) (u : Value), BindsTo s fd ⟨[u], []⟩ [(x, u)])
    (hsp : ∀ (H : Hp) (o : HO), SqL K H a (ns.map V.int) → H sysModules = some o → (∀ ps, o ≠ .tbl ps) → (∀ p ∈ cs, H p.2 = some (.tbl #[])) → sp [.ref a] H (fun v _ => v = .bl true) fun _ _ _ => False) :
    codeAny (model P w) callerA (.call (.ref fa) ⟨[.ref a], []⟩) (fun r s' => r = .ok (.ret (.bool true)) ∧ OldK s₁.heap s'.heap ∧ s'.os = s₁.os ∧ AllBare s'.gens) s₁ := by
  let oS : Obj := { cls := .type "list", data := .seq vs.toArray }
  let H : Hp := fun b => if b = a ∧ K.lookup a = none then some (.frz oS (.lst (ns.map V.int))) else if b = sysModules then some (sysO oY) else if b ∈ cs.map (·.2) then some (.tbl #[]) else none
  have isT : ∀ b : Addr, b ∈ cs.map (·.2) → s₁.heap.get? b = some { cls := .none, data := .fields #[] } ∧ K.lookup b = none ∧ b ≠ sysModules := fun b hb => by
    obtain ⟨p, hp, rfl⟩ := List.mem_map.mp hb
    exact ⟨hT p hp, nT p hp, hyT p hp⟩
  have aT : a ∉ cs.map (·.2) := fun z => by
    have q := (isT a z).1
    rw [ha] at q
    cases q
  have Ha : K.lookup a = none → H a = some (.frz oS (.lst (ns.map V.int))) := fun hk => if_pos ⟨rfl, hk⟩
  have Hy : H sysModules = some (sysO oY) := (if_neg fun z => hna z.1.symm).trans (if_pos rfl)
  have Ht : ∀ b, b ∈ cs.map (·.2) → H b = some (.tbl #[]) := fun b hb => (if_neg fun z => aT (by rw [← z.1]; exact hb)).trans ((if_neg (isT b hb).2.2).trans (if_pos hb))
  have rv := vals_ints hi
  have Hsome : ∀ {b : Addr} {o : HO}, H b = some o → (b = a ∧ o = .frz oS (.lst (ns.map V.int))) ∨ (b = sysModules ∧ o = sysO oY) ∨ (b ∈ cs.map (·.2) ∧ o = .tbl #[]) := fun {b o} e => by
    by_cases c : b = a ∧ K.lookup a = none
    · have e' := (if_pos c).symm.trans e
      exact .inl ⟨c.1, (Option.some.inj e').symm⟩
    · by_cases c2 : b = sysModules
      · rw [c2, Hy] at e; exact .inr (.inl ⟨c2, (Option.some.inj e).symm⟩)
      · by_cases c3 : b ∈ cs.map (·.2)
        · rw [Ht b c3] at e; exact .inr (.inr ⟨c3, (Option.some.inj e).symm⟩)
        · have e' : H b = none := (if_neg c).trans ((if_neg c2).trans (if_neg c3))
          rw [e'] at e; cases e
  have hfree : ∀ {b : Addr}, (b = a → K.lookup a ≠ none) → b ≠ sysModules → b ∉ cs.map (·.2) → H b = none := fun {b} c c2 c3 => (if_neg fun z => c z.1 z.2).trans ((if_neg c2).trans (if_neg c3))
  have hS : SqL K H a (ns.map V.int) := by
    cases hk : K.lookup a with
    | none => exact .inl (.inr ⟨oS, Ha hk⟩)
    | some o =>
      have e := (KX a o hk).symm.trans ha
      cases e
      exact .inr ⟨_, vs.toArray, _, hk, rfl, rfl, rfl, by rw [List.size_toArray, hi.length]; exact hl, by simpa using rv⟩
  have hok : HOk P w H s₁.heap := fun b o e => by
    rcases Hsome e with ⟨rfl, rfl⟩ | ⟨rfl, rfl⟩ | ⟨h1, rfl⟩
    · exact ⟨ha, by rw [List.length_map]; exact hl, vs, _, rv, ha⟩
    · exact ⟨hsy, hsy, ⟨_, hsy⟩, fun h1 h2 z kk => kk _ z⟩
    · exact (isT b h1).1
  have noD : ∀ {b : Addr} {o : Obj}, s₁.heap.get? b = some o → b ≠ sysModules → (∀ us n, o.data ≠ .seq us n) → o.data ≠ .fields #[] → H b = none := fun {b o} e c h1 h2 => hfree (fun z => by
      rw [z, ha] at e
      cases e
      exact (h1 _ _ rfl).elim) c fun z => by
      rw [(isT b z).1] at e
      cases e
      exact h2 rfl
  have ns_hid : ∀ {b : Addr} {m : Str → Option Value}, b ≠ sysModules → s₁.heap.Ns b m → (hidT s₁.heap H).Ns b m := fun {b m} hb x => by
    obtain ⟨o, es, ep, e, d, r⟩ := x
    exact ⟨o, es, ep, hidT_get e (noD e hb (fun us n z => by rw [d] at z; cases z) fun z => by rw [d] at z; cases z), d, r⟩
  have hKb : K.In (hidT s₁.heap H) := fun b o e => hidT_get (KX b o e) (hfree (fun z => by rw [z] at e; rw [e]; exact fun y => nomatch y) (fun z => by rw [z, hKs] at e; cases e) fun z => by rw [(isT b z).2.1] at e; cases e)
  have hM : Mod K mg (hidT s₁.heap H) := ⟨hKb, ns_hid (by decide) hns, ⟨mb, ns_hid (by decide) hb, hbb⟩, let ⟨mc, h1, h2⟩ := hlim; ⟨mc, ns_hid (by decide) h1, h2⟩⟩
  have TB : ∀ p ∈ cs, LamX.TabB (hidT s₁.heap H) mg p.1 p.2 := fun p hp => by
    have hTp := hT p hp
    refine ⟨?_, ?_, fun z => ?_⟩
    · obtain ⟨o, us, file, tf, flags, tg, inF, text, tt, e1, r1, r2, r3, r4⟩ := hC p hp
      refine ⟨o, us, file, tf, flags, tg, inF, text, tt, hidT_get e1 (noD e1 (hCy p hp) (fun us' n z => ?_) fun z => ?_), r1, r2, r3, r4⟩
      · rw [r2] at z; cases z
      · rw [r2] at z; cases z; simp at r3
    · obtain ⟨bm, ob, b1, b2, b3, b4, b5, b6⟩ := hbm
      have nY : bm ≠ sysModules := fun q => by
        obtain ⟨es, ep, hd⟩ := hyd
        rw [q, hsy] at b3
        cases b3
        rw [hd] at b6; cases b6
      have nG : bm ≠ mainGlobals := fun q => by
        obtain ⟨o, es, ep, e, hd, _⟩ := hns
        rw [q, e] at b3
        cases b3
        rw [hd] at b6; cases b6
      have nP : bm ≠ p.2 := fun q => by rw [q, hTp] at b3; cases b3; cases b6
      exact ⟨bm, ob, b1, b2, nG, nP, hidT_get b3 (noD b3 nY (fun us' n z => by rw [b6] at z; cases z) fun z => by rw [b6] at z; cases z), b4, b5, b6⟩
    · obtain ⟨o, es, ep, e, hd, _⟩ := hns
      rw [z, hTp] at e
      cases e
      cases hd
  have e0 : Env0 P w K mg (hidT s₁.heap H) callerA [] s₁ H := ⟨rfl, hM, fun b o e => of_hidT e, Nat.le_of_eq (hidT_size _ _), trivial, (fun b hb => absurd (show b ∈ ([] : List Addr) from hb) (by simp)), hok, .of_eq hg⟩
  refine codeAny_mono ((F _ hKb (ns_hid (by decide) hns) TB).run callerA rfl hr [] s₁ H ⟨[.ref a], []⟩ [.ref a] [.ref a] _ _ e0 (hbind s₁ (.ref a)) (.cons rfl .nil) (hsp H _ hS Hy (fun ps z => by unfold sysO at z; cases z) fun p hp => Ht _ (List.mem_map.mpr ⟨p, hp, rfl⟩))) fun r s' h => ?_
  rcases r with e | fl
  · exact False.elim h
  rcases fl with _ | _ | _ | u
  · exact False.elim h
  · exact False.elim h
  · exact False.elim h
  obtain ⟨v, H', os, bare, un, hok', r', q⟩ := h
  have q' : v = .bl true := q
  subst q'
  obtain rfl : u = Value.bool true := r'
  have key : ∀ b o, b ∉ cs.map (·.2) → s₁.heap.get? b = some o → s'.heap.get? b = some o := fun b o nb e => by
    cases hb' : H b with
    | none => exact un.keep b o e hb' (fun z => absurd (show b ∈ ([] : List Addr) from z) (by simp)) (by simp)
    | some u =>
      rcases Hsome hb' with ⟨rfl, rfl⟩ | ⟨rfl, rfl⟩ | ⟨h1, _⟩
      · have e2 := (hok' _ _ (un.frzs _ oS _ hb')).1
        rw [ha] at e
        cases e
        exact e2
      · have e2 := (hok' _ _ (un.frzs _ oY _ hb')).1
        rw [hsy] at e
        cases e
        exact e2
      · exact absurd h1 nb
  have grown : ∀ p ∈ cs, ∃ more : Array Value, s'.heap.get? p.2 = some { cls := .none, data := .fields more } := fun p hp => by
    obtain ⟨more, z⟩ := un.tbls p.2 #[] (Ht _ (List.mem_map.mpr ⟨p, hp, rfl⟩))
    exact ⟨_, hok' p.2 _ z⟩
  refine ⟨rfl, ⟨fun b o e => ?_, fun b o e => ?_⟩, os, bare⟩
  · by_cases hb : b ∈ cs.map (·.2)
    · obtain ⟨p, hp, rfl⟩ := List.mem_map.mp hb
      obtain ⟨more, hm⟩ := grown p hp
      rw [hT p hp] at e
      cases e
      exact .inr (.inl ⟨((hC p hp).tab (hT p hp)).isCodeTable, rfl, #[], more, rfl, by rw [Array.empty_append]; exact hm⟩)
    · exact .inl (key b o hb e)
  · by_cases hb : b ∈ cs.map (·.2)
    · obtain ⟨p, hp, rfl⟩ := List.mem_map.mp hb
      obtain ⟨more, hm⟩ := grown p hp
      exact ⟨_, hm⟩
    · exact ⟨o, key b o hb e⟩
theorem walk_ofT {l : PySem.W.OpenLaw} {n k : Nat} {q : Program} {loose : List Str} {XP : (Str → Option Value) → Heap → Prop} {YP : World → Heap → Prop} {d : DefRec} {K : Params → PySem.W.Frag} {sp : PySem.W.Frag → List (Addr × Addr) → Sp} {x : Str}
    (hn : l.most = some n) (hn2 : n ≤ sizeLine) (hdf : d.params.defaults = []) (hr : Room k callerA) (him : importsNone q = true) (hKs : ∀ p, (K p).lookup sysModules = none)
    (hY : ∀ (w : World) (h : Heap), YP w h → (K w.params).In h)
    (F : ∀ (w : World) (mg : Str → Option Value) (fa : Addr) (h : Heap), YP w h → (K w.params).In h → h.Ns mainGlobals mg → mg d.name = some (.ref fa) →
      ∃ (fd : FuncData) (cs : List (Addr × Addr)), (∀ p ∈ cs, h.get? p.2 = some { cls := .none, data := .fields #[] }) ∧ (∀ p ∈ cs, (K w.params).lookup p.2 = none) ∧ (∀ p ∈ cs, PySem.W.CodeHd h p.1 p.2) ∧ (∀ p ∈ cs, p.1 ≠ sysModules ∧ p.2 ≠ sysModules) ∧ (∀ (s : Shared) (u : Value), BindsTo s fd ⟨[u], []⟩ [(x, u)]) ∧
        (∀ base : Heap, (K w.params).In base → base.Ns mainGlobals mg → (∀ p ∈ cs, LamX.TabB base mg p.1 p.2) → FnG l.prog w (K w.params) mg base CX0 k fa fd [x] (sp (K w.params) cs)) ∧
        ∀ (H : Hp) (a : Addr) (ns : List Int) (o : HO), ns.length ≤ n → SqL (K w.params) H a (ns.map V.int) → H sysModules = some o → (∀ ps, o ≠ .tbl ps) → (∀ p ∈ cs, H p.2 = some (.tbl #[])) → sp (K w.params) cs [.ref a] H (fun v _ => v = .bl true) fun _ _ _ => False) :
    PySem.W.WalkO q loose XP YP l.row.toRowW d [] (fun f vs => PySem.call f vs) :=
  Att.attach_call hn hdf fun w s₀ s₁ mg mb fa o pm cd doc a vs ns G Y ho hd hcd hmg hobj hints hlen hg =>
    have KX := hY w _ Y
    let ⟨fd, cs, hT, nT, hC, hy, hb, hF, hsp⟩ := F w mg fa _ Y KX G.T.g hmg
    let ⟨mm, hmm, _⟩ := (G.T.seer him).mods
    let ⟨oY, es, ep, eY, dY, _⟩ := hmm
    law_callT (hKs w.params) eY (fun p hp => (hy p hp).2) (fun z => by rw [z, eY] at hobj; cases hobj; cases dY) KX G.T.g G.T.b G.T.builtins G.T.nolimit hg hT nT hC (fun p hp => (hy p hp).1) G.T.bmain ⟨es, ep, dY⟩ hobj hints (Nat.le_trans hlen hn2) hr hF hb fun H o hS hyy hoo hTT => hsp H a ns o hlen hS hyy hoo hTT
end MB

set_option maxHeartbeats 4000000
namespace MB
open PySem PySem.Spec PyProof.Rows L2
/-! ### what a def or a lambda lets out, its caller takes -/
theorem takesX {P : Program} {w : World} {K : PySem.W.Frag} {mg : Str → Option Value} {base : Heap} {N : List Str} {qual : Str} {scope : Scope} {f : Addr} {cd : Value} {A : Around} {outer : List Env} {s : Shared} {H : Hp} {E : XK} :
    Takes (cxOf (L2.CX P w) P w K mg base N qual scope f cd A outer s H E) (fun cls d _ H => E cls d H) := takes_of rfl rfl rfl rfl
theorem passX {P : Program} {w : World} {K : PySem.W.Frag} {mg : Str → Option Value} {base : Heap} {N : List Str} {qual : Str} {scope : Scope} {f : Addr} {cd : Value} {A : Around} {outer : List Env} {s : Shared} {H : Hp} {E : XK} :
    Passes (L2.CX P w) (cxOf (L2.CX P w) P w K mg base N qual scope f cd A outer s H E) E := passes_call takesX fun _ _ _ _ h => h
theorem takesL {X : Cx} {A : Around} {outer : List Env} {s : Shared} {H : Hp} {E : XK} {scope : Scope} {f c' : Addr} : Takes (LamX.lamCx X A outer s H E scope f c') (fun cls d _ H => E cls d H) := takes_of rfl rfl rfl rfl
theorem passL' {X : Cx} {A : Around} {outer : List Env} {s : Shared} {H : Hp} {E : XK} {scope : Scope} {f c' : Addr} : Passes (L2.CX X.prog X.w) (LamX.lamCx X A outer s H E scope f c') E := passes_call takesL fun _ _ _ _ h => h
/-- a def that may raise, called where it does not -/
theorem passN {P : Program} {w : World} {X : Cx} : Passes (L2.CX P w) X E0 := fun _ _ _ _ _ _ _ ⟨_, _, _, _, _, _, _, _, _, _, _, _, h⟩ => h.elim
/-! ### raise C(value) -/
theorem raise_read {K : PySem.W.Frag} {C : Addr} {ta : TA} {σ : L2.St} {H : Hp} {W : XK} (h : ta σ H fun vs H1 => ∃ y, vs = [y] ∧ ∀ d H2, Same H1 H2 → H1 d = none → H2 d = some (.xd [("value", y)]) → W (.ref C) (some d) H2)
    (mono : ∀ (R R' : List V → Hp → Prop), (∀ vs H1, R vs H1 → R' vs H1) → ta σ H R → ta σ H R') : tMkO C (sp_init K C "value") [] ta σ H W := by
  refine mono _ _ ?_ h
  rintro vs H1 ⟨y, rfl, q⟩
  refine ⟨by simp, fun a na => ⟨a, y, rfl, upd_same, fun dx ndx ne => ⟨rfl, dx, [("value", y)], upd_same, ?_, ?_, ?_⟩⟩⟩
  · rw [upd_ne ne]; exact upd_same
  · by_cases e : dx = a
    · exact absurd e ne
    · rw [upd_ne e] at ndx; exact ndx
  · have nd : H1 dx = none := by rw [upd_ne ne] at ndx; exact ndx
    refine q dx _ (fun b o eb => ?_) nd upd_same
    have h1 : b ≠ a := ne_of_none eb na
    have h2 : b ≠ dx := ne_of_none eb nd
    rw [upd_ne h2]
    unfold del
    rw [if_neg h1, upd_ne h1, upd_ne h2, upd_ne h1]
    exact eb
/-! ### what stays when a lambda is made -/
theorem extN_seq {K : PySem.W.Frag} {H H' : Hp} (e : LamX.ExtN H H') {a : Addr} {xs : List V} (h : SqL K H a xs) : SqL K H' a xs := by
  rcases h with (h | ⟨o, h⟩) | h
  · exact .inl (.inl (e _ _ h fun _ z => nomatch z))
  · exact .inl (.inr ⟨o, e _ _ h fun _ z => nomatch z⟩)
  · exact .inr h
theorem extN_tup {K : PySem.W.Frag} {H H' : Hp} (e : LamX.ExtN H H') {a : Addr} {xs : List V} (h : SqT K H a xs) : SqT K H' a xs := by
  rcases h with (h | ⟨o, h⟩) | h
  · exact .inl (.inl (e _ _ h fun _ z => nomatch z))
  · exact .inl (.inr ⟨o, e _ _ h fun _ z => nomatch z⟩)
  · exact .inr h
theorem Dq.extN {K : PySem.W.Frag} {H H' : Hp} (e : LamX.ExtN H H') {v : V} {d : PyData} (h : Dq K H v d) : Dq K H' v d := by
  refine Dq.rec (motive_1 := fun v d _ => Dq K H' v d) (motive_2 := fun vs ds _ => DqAll K H' vs ds) ?_ ?_ ?_ ?_ ?_ ?_ ?_ ?_ ?_ h
  · exact .nonq
  · intro b; exact .blq b
  · intro i; exact .intq i
  · intro x; exact .strq x
  · intro a xs ds hs hne _ ih; exact .lstq (extN_seq e hs) hne ih
  · intro a xs ds hs _ ih; exact .tupq (extN_tup e hs) ih
  · intro a kvs des he hk _ ih; exact .dctq (e _ _ he fun _ z => nomatch z) hk ih
  · exact .nil
  · intro v vs d ds _ _ h1 h2; exact .cons h1 h2
theorem tabs_but {T : List (Addr × Str)} {H H' : Hp} {a : Addr} {xs : List V} (t : LamX.Tabs T H) (b : But a H H') (h : H a = some (.lst xs)) : LamX.Tabs T H' := fun p hp => by
  obtain ⟨ps, h1, h2, h3⟩ := t p hp
  refine ⟨ps, b _ _ (fun z => by rw [z, h] at h1; cases h1) h1, h2, fun pos cv hc => ?_⟩
  obtain ⟨c, e1, e2⟩ := h3 pos cv hc
  refine ⟨c, e1, b _ _ (fun z => ?_) e2⟩
  rw [z, h] at e2
  have e3 := Option.some.inj e2
  unfold LamX.CodeO at e3
  cases e3
theorem Tabs.same {T : List (Addr × Str)} {H H' : Hp} (t : LamX.Tabs T H) (s : Same H H') : LamX.Tabs T H' := LamX.Tabs.ext t s
/-! ### bs.count(True) -/
theorem dpBs {K : PySem.W.Frag} {H : Hp} : ∀ (bs : List Bool), DpAll K H (bs.map V.bl) (bs.map PyData.bool)
  | [] => .nil
  | b :: bs => .cons (.bl b) (dpBs bs)
def rCountB (K : PySem.W.Frag) : V → List V → Hp → VK → Prop := fun x xs H Q => ∃ (a : Addr) (bs : List Bool), x = .ref a ∧ xs = [.bl true] ∧ SqL K H a (bs.map V.bl) ∧ Q (.int (bs.countP id : Nat)) H
theorem mt_countB {X : Cx} (hu : X.A.units + 65 < cLine) : MtR X "list.count" (rCountB X.K) := by
  intro pins s σ H x xs v us Q I rx rxs h
  obtain ⟨a, bs, rfl, rfl, hs, q⟩ := h
  cases rx
  cases rxs with
  | cons ry rt =>
    rename_i uy ut
    cases rt
    cases ry
    obtain ⟨its, rv, ⟨o, n, ho, hc, hdn, hdt⟩, hlen⟩ := I.list hs
    obtain ⟨as, h4⟩ := Dp.readsAll I (bs.map PyData.bool) _ its (dpBs bs) rv
    have pl : ∀ l : List Bool, PyData.plainAll (l.map PyData.bool) = true := fun l => by
      induction l with
      | nil => rfl
      | cons b l ih => simp [PyData.plainAll, PyData.plain, ih]
    have dp : ∀ l : List Bool, PyData.depthAll (l.map PyData.bool) = 0 := fun l => by
      induction l with
      | nil => rfl
      | cons b l ih => simp [PyData.depthAll, PyData.depth, ih]
    refine SeqAt.count_list_data (xs := bs.map PyData.bool) (vs := its.toArray) (d := .bool true) ⟨o, ho, hc, n, hdt⟩ (by simpa using h4) (.bool true) (pl bs) rfl (by rw [dp]; omega) ?_
    have e : (bs.map PyData.bool).countP (fun y => PyData.eqv y (.bool true)) = bs.countP id := by
      rw [List.countP_map]
      congr 1
      funext b
      cases b <;> rfl
    rw [e]
    exact ⟨.int (bs.countP id : Nat), H, I.tok _, ⟨_, rfl⟩, q⟩
end MB

set_option maxHeartbeats 4000000
namespace MB
open PySem PySem.Spec PyProof.Rows L2
/-! ### a lambda handed to a def, whose handler reads the def's own names: what the call lets out is told at the slots of the call -/
section
variable {X : Cx} {pins : List (Addr × Obj)} {σ : L2.St} {H : Hp} {s : Shared}
theorem pe_actE {CXg : CXT} {Eg : XK} {Ng : List Str} {qg : Str} {sg : Scope} {g f c' : Addr} {cdg pm ctv : Value} {params : Arguments} {body : Expr} {scope : Scope} {k i : Nat} {a : Str} {pn : List (Addr × Obj)} {xe : Value → Shared → Prop} {W : WX} {E : XK} {tb : TE} {p1 p2 : Pos}
    (I : Inv X pins σ H s) (L : LamX.LamS X.env.scope scope) (hf : s.heap.get? f = some (PySem.W.kla_obj "<lambda>" (X.env.qual ++ "<lambda>") params body scope (cloFrom X.env.cells scope.names []) pm c' ctv)) (hfn : H f = none) (hfr : f ∉ frs X.stack)
    (bnd : bindArgs (PySem.W.kla_fn "<lambda>" (X.env.qual ++ "<lambda>") params body scope (cloFrom X.env.cells scope.names []) pm (.ref c') ctv) ⟨[], []⟩ = pure [])
    (tk : Takes ((cxOf CXg X.prog X.w X.K X.mg X.base Ng qg sg g cdg X.A X.stack s H Eg).tr pn xe) W) (hr : Room (k + 1) (X.A.deeper (envOfC qg sg s.heap.objs.size g cdg)))
    (bodyOk : ∀ (A : Around) (outer : List Env) (s : Shared) (H : Hp), Room k (A.deeper (LamX.lamEnv X scope s.heap.objs.size f c')) → PE (LamX.lamCx X A outer s H E scope f c') body tb)
    (hN : Ng[i]? = some a) (vis : Vis sg a) (hd : (a == ("__debug__" : Str)) = false := by decide) (hcd : (a == ("__classdict__" : Str)) = false := by decide) :
    PE ((cxOf CXg X.prog X.w X.K X.mg X.base Ng qg sg g cdg X.A X.stack s H Eg).tr pn xe) (.Call (.Name a p1) [] [] p2)
      (fun σ2 H2 Q => σ2[i]? = some (some (.ref f)) ∧ H2 c' = some (LamX.CodeO c' (X.env.qual ++ "<lambda>")) ∧ (∀ cls d H', E cls d H' → W cls d σ2 H') ∧ tb σ H2 Q) :=
  ⟨fun pins2 s2 σ2 H2 Q J ⟨hs, hc, hW, ht⟩ => wpAny_Call_Name_kw (thn ((pe_var (pos := p1) (i := i) hN vis hd hcd).run pins2 s2 σ2 H2 (fun v G => v = .ref f ∧ G = H2) J ⟨.ref f, hs, rfl, rfl⟩) fun u s1 ⟨v, H1, J1, r1, ev, eH⟩ => by
    subst ev eH
    obtain rfl : u = Value.ref f := r1
    have kf := J1.base.keep f _ hf hfn hfr (fun z => nomatch (show f ∈ ([] : List Addr) from z))
    have un : Un (frs X.stack) [] H H1 s.heap s1.heap := J1.base
    obtain ⟨⟨oc, vs, t, q1, q2, q3⟩, _, _⟩ := J1.hok c' _ hc
    have run : codeAny (model X.prog X.w) (X.A.deeper (envOfC qg sg s.heap.objs.size g cdg)) (.call (.ref f) ⟨[], []⟩) (CR (L2.CX X.prog X.w) (envOfC qg sg s.heap.objs.size g cdg :: X.stack) X.prog X.w H1 s1 Q E) s1 := by
      refine PySem.W.kla_callFunE hr.depth kf rfl L.co L.gen rfl ⟨c', oc, vs, t, rfl, q1, q2, q3⟩ ?_
      rw [bnd]
      refine wpAny_pure (wpAny_newFunctionEnv (fun y hy => (L.own y hy).2) (fun y hy => absurd hy (by simp)) (fun h₁ n1 n2 => ⟨J1.nolimit.fresh _ n2, show codeAny _ _ (.expr body (LamX.lamEnv X scope s1.heap.objs.size f c')) _ _ from ?_⟩) L.kind)
      have st : Inv (LamX.lamCx X (X.A.deeper (envOfC qg sg s.heap.objs.size g cdg)) (envOfC qg sg s.heap.objs.size g cdg :: X.stack) s1 H1 E scope f c') [] σ H1 { s1 with heap := h₁, toks := s1.toks + ([] : List (Str × Value)).length } :=
        LamX.lam_start2 I L J1.env0 hr.hd un n1 fun b o e => n2.extBut b o (Nat.ne_of_lt (Heap.lt_size e)) (Heap.get?_push_of_some _ e)
      exact PySem.W.kla_codeExpr (wpAny_mono ((bodyOk _ _ s1 H1 (hr.deeper _)).run [] _ _ H1 Q st ht) (fun v s' ⟨y, H', J', rv, z⟩ => ⟨y, H', J'.os, J'.bare, J'.base, J'.hok, rv, z⟩) fun e s' z => z)
    refine PySem.W.callWith_F0 ⟨_, _, _, _, kf⟩ (wpAny_call (codeAny_mono run fun r s' z => ?_))
    rcases r with e | fl
    · exact tk e s' (XE.of_call J1 (fun cls d H' h => hW cls d H' h) z)
    · rcases fl with _ | _ | _ | u
      · exact False.elim z
      · exact False.elim z
      · exact False.elim z
      · exact J1.after z)⟩
end
/-- the def that calls what it got, TT: what it makes of the lambda's reading -/
def GivesE (X : Cx) (Ng : List Str) (x : Str) (sg : Scope) (g : Addr) (cdg : Value) (bg : List Stmt) (a : Str) (q : Str) (TT : (XK → Hp → VK → Prop) → Hp → VK → Prop) : Prop :=
  ∀ (f c' : Addr) (s : Shared) (H : Hp) (Q : VK) (tl : XK → Hp → VK → Prop),
    (∀ (W : WX) (pn : List (Addr × Obj)) (xe : Value → Shared → Prop) (E : XK) (p1 p2 : Pos), Takes ((cxOf CX0 X.prog X.w X.K X.mg X.base Ng x sg g cdg X.A X.stack s H E0).tr pn xe) W →
      PE ((cxOf CX0 X.prog X.w X.K X.mg X.base Ng x sg g cdg X.A X.stack s H E0).tr pn xe) (.Call (.Name a p1) [] [] p2) (fun σ2 H2 Q => σ2[0]? = some (some (.ref f)) ∧ H2 c' = some (LamX.CodeO c' q) ∧ (∀ cls d H', E cls d H' → W cls d σ2 H') ∧ tl E H2 Q)) →
    H c' = some (LamX.CodeO c' q) → TT tl H Q →
    ∃ t, PSs (cxOf CX0 X.prog X.w X.K X.mg X.base Ng x sg g cdg X.A X.stack s H E0).nox bg t ∧ t { nx := fun _ H' => Q .non H', rt := Q } (L2.start Ng [.ref f]) H
section
variable {X : Cx}
/-- x(lambda: body) -/
theorem pe_lamE {T : List (Addr × Str)} {TT : (XK → Hp → VK → Prop) → Hp → VK → Prop} {x a : Str} {g c P : Addr} {k : Nat} {pg : Arguments} {bg : List Stmt} {sg : Scope} {dV kV doc pm cdv ct oc : Value} {an od : Option Addr} {osl : Array (Option Value)} {Ng : List Str}
    {params : Arguments} {body : Expr} {scope : Scope} {t : XK → TE} {p lpos pos : Pos} (hg : Gl X x) (hm : X.mg x = some (.ref g)) (hk : PySem.W.keepIn X.K (.ref g) = true)
    (lk : X.K.lookup g = some ⟨oc, od, .func (PySem.W.fnOf x x pg bg sg dV kV doc pm an cdv ct), osl⟩) (hcg : PySem.W.codeIn X.K cdv x = true) (hb : L2.Binds X.K (PySem.W.fnOf x x pg bg sg dV kV doc pm an cdv ct) [a] []) (Sg : FnScope Ng [a] sg) (hNg : Ng[0]? = some a) (hva : Vis sg a)
    (hG : GivesE X Ng x sg g cdv bg a (X.env.qual ++ "<lambda>") TT)
    (TB : LamX.TabB X.base X.mg c P) (hcode : X.env.code = .ref c) (hmT : (P, X.env.qual ++ "<lambda>") ∈ T) (hu : ∀ p ∈ T, p.1 = P → p.2 = X.env.qual ++ "<lambda>") (hr : Room (k + 2) X.A) (L : LamX.LamS X.env.scope scope) (hdef : defaultsOf params X.env = ([], []))
    (hbind : ∀ (q : Str) (cl : List (Str × Addr)) (pm cv ctv : Value), bindArgs (PySem.W.kla_fn "<lambda>" q params body scope cl pm cv ctv) ⟨[], []⟩ = pure [])
    (hbody : ∀ (A : Around) (outer : List Env) (s : Shared) (H : Hp) (E : XK) (f c' : Addr), Room k (A.deeper (LamX.lamEnv X scope s.heap.objs.size f c')) → PE (LamX.lamCx X A outer s H E scope f c') body (t E))
    (hdb : (x == ("__debug__" : Str)) = false := by decide) (hd : (a == ("__debug__" : Str)) = false := by decide) (hcd : (a == ("__classdict__" : Str)) = false := by decide) :
    PE X (.Call (.Name x p) [.Lambda params body scope lpos] [] pos) (LamX.tLam T TT t) :=
  ⟨fun pins s σ H Q I ⟨hT, h⟩ => wpAny_Call_Name_kw (ld_glob I hg hm (PySem.W.callWith_K (h₀ := X.base) I.ok.mod.kin hk
      (show wpAny _ _ (spliced ((false, eval (.Lambda params body scope lpos) X.env) :: backTo pos (starEach [] X.env))) _ _ s from Calls.spliced_cons (LamX.lam_make2 I TB hcode hmT hu hT hdef (L.has I.ok) fun f c' pm' ctv H1 s1 J eN T1 hf hfn hfr hco => Calls.spliced_nil ⟨J.kIn, by
        have run : codeAny (model X.prog X.w) X.A (.call (.ref g) ⟨[.ref f], []⟩) (CR CX0 X.stack X.prog X.w H1 s1 Q E0) s1 := by
          refine LamX.run_ofS (N := Ng) (ps := [a]) (us := [.ref f]) (vs := [.ref f]) lk hcg Sg hr J.env0 (hb s1 [.ref f] J.kIn rfl) (.cons rfl .nil) rfl fun hr' => ?_
          obtain ⟨t', g1, g2⟩ := hG f c' s1 H1 Q (fun E H' Q' => t E σ H' Q') (fun W pn xe E p1 p2 tk => pe_actE (i := 0) J L hf hfn hfr (hbind _ _ _ _ _) tk hr' (fun A outer s H hr2 => hbody A outer s H E f c' hr2) hNg hva hd hcd) hco (h H1 eN T1)
          exact ⟨t', g1.nox, g2⟩
        refine wpAny_call (codeAny_mono run fun r s2 z => ?_)
        rcases r with e | fl
        · exact (show False from z).elim
        · rcases fl with _ | _ | _ | u
          · exact False.elim z
          · exact False.elim z
          · exact False.elim z
          · exact J.after z⟩)) (by rfl) (by rfl)) hdb)⟩
end
end MB

set_option maxHeartbeats 4000000
namespace MB
open PySem PySem.Spec PyProof.Rows L2
theorem blT {c : Prop} [Decidable c] (h : c) : V.bl (decide c) = V.bl true := by rw [decide_eq_true h]
theorem blF {c : Prop} [Decidable c] (h : ¬ c) : V.bl (decide c) = V.bl false := by rw [decide_eq_false h]
theorem nblF {c : Prop} [Decidable c] (h : c) : V.bl (!decide c) = V.bl false := by rw [decide_eq_true h]; rfl
theorem nblT {c : Prop} [Decidable c] (h : ¬ c) : V.bl (!decide c) = V.bl true := by rw [decide_eq_false h]; rfl
theorem int_ne {i j : Int} (h : i ≠ j) : ¬ V.int i = V.int j := fun e => h (by injection e)
theorem dp_bls_inv {K : PySem.W.Frag} {H : Hp} : ∀ {ns : List Bool} {vs : List V}, DpAll K H vs (ns.map PyData.bool) → vs = ns.map V.bl
  | [], _, .nil => rfl
  | n :: ns, _, .cons a b => by
    cases a
    rw [dp_bls_inv b]
    rfl
/-- a comprehension whose items are truth values -/
theorem lc_bools {K : PySem.W.Frag} {J : It} {n : Nat} {G : Hp → Prop} {Y : Nat → Hp → V → Hp → Prop} (w : Walk J n G Y) {g : TG} {tt : TT} {te : TE} {vs : List Nat} {σ : L2.St} {H1 : Hp} {D : Addr} {Qd : Hp → Prop}
    (bs : List Bool) (hl : bs.length = n) (hn : n ≤ 1000) (hD : H1 D = none) (hG : ∀ H, Same H1 H → G H)
    (hs : ∀ i x H H', i < n → Same H1 H → Y i H x H' → ∀ b, bs[i]? = some b → ∀ R : V → Hp → Prop, (∀ H4, Same H H4 → R (.bl b) H4) →
      g x (wipe σ vs) H' fun σ2 H2 => wipe σ2 vs = wipe σ vs ∧ tt σ2 H2 fun b H3 => b = true ∧ te σ2 H3 R)
    (hd : ∀ H, Same H1 H → H D = some (.lst (bs.map V.bl)) → Qd H)
    (mg : ∀ x σ' H' (Q Q' : L2.St → Hp → Prop), (∀ a b, Q a b → Q' a b) → g x σ' H' Q → g x σ' H' Q') (mt : ∀ σ' H' (Q Q' : Bool → Hp → Prop), (∀ a b, Q a b → Q' a b) → tt σ' H' Q → tt σ' H' Q') :
    ∃ W : Nat → Nat → Hp → Prop, (∃ m, W 0 m (upd H1 D (.lst []))) ∧ ∀ i m H, W i m H →
      (J.stop i H ∧ Qd H) ∨ (J.go i H ∧ ∃ Nx : Hp → Prop, (∀ H', Nx H' → ∃ m', m' < m ∧ W (i + 1) m' H') ∧ ∀ x H', J.yld i H x H' → g x (wipe σ vs) H' fun σ2 H2 => wipe σ2 vs = wipe σ vs ∧ tt σ2 H2 fun b H3 =>
        if b = true then te σ2 H3 fun y H4 => ∃ acc, H4 D = some (.lst acc) ∧ acc.length < sizeLine ∧ Nx (upd H4 D (.lst (acc ++ [y]))) else Nx H3) := by
  refine lc_all (K := K) w (bs.map PyData.bool) (by rw [List.length_map, hl]) (fun d h => ?_) hn hD hG ?_ ?_ mg mt
  · obtain ⟨b, _, rfl⟩ := List.mem_map.mp h
    exact .bl b
  · intro i x H H' hi s y d hd' R hR
    rw [List.getElem?_map] at hd'
    cases e : bs[i]? with
    | none => rw [e] at hd'; cases hd'
    | some b =>
      rw [e] at hd'
      cases hd'
      exact hs i x H H' hi s y b e R fun H4 s4 => hR _ _ s4 (.bl b)
  · intro H acc s ha hA
    rw [dp_bls_inv hA] at ha
    exact hd H s ha
/-- a comprehension whose items are numbers -/
theorem lc_ints {K : PySem.W.Frag} {J : It} {n : Nat} {G : Hp → Prop} {Y : Nat → Hp → V → Hp → Prop} (w : Walk J n G Y) {g : TG} {tt : TT} {te : TE} {vs : List Nat} {σ : L2.St} {H1 : Hp} {D : Addr} {Qd : Hp → Prop}
    (bs : List Int) (hl : bs.length = n) (hn : n ≤ 1000) (hD : H1 D = none) (hG : ∀ H, Same H1 H → G H)
    (hs : ∀ i x H H', i < n → Same H1 H → Y i H x H' → ∀ b, bs[i]? = some b → ∀ R : V → Hp → Prop, (∀ H4, Same H H4 → R (.int b) H4) →
      g x (wipe σ vs) H' fun σ2 H2 => wipe σ2 vs = wipe σ vs ∧ tt σ2 H2 fun b H3 => b = true ∧ te σ2 H3 R)
    (hd : ∀ H, Same H1 H → H D = some (.lst (bs.map V.int)) → Qd H)
    (mg : ∀ x σ' H' (Q Q' : L2.St → Hp → Prop), (∀ a b, Q a b → Q' a b) → g x σ' H' Q → g x σ' H' Q') (mt : ∀ σ' H' (Q Q' : Bool → Hp → Prop), (∀ a b, Q a b → Q' a b) → tt σ' H' Q → tt σ' H' Q') :
    ∃ W : Nat → Nat → Hp → Prop, (∃ m, W 0 m (upd H1 D (.lst []))) ∧ ∀ i m H, W i m H →
      (J.stop i H ∧ Qd H) ∨ (J.go i H ∧ ∃ Nx : Hp → Prop, (∀ H', Nx H' → ∃ m', m' < m ∧ W (i + 1) m' H') ∧ ∀ x H', J.yld i H x H' → g x (wipe σ vs) H' fun σ2 H2 => wipe σ2 vs = wipe σ vs ∧ tt σ2 H2 fun b H3 =>
        if b = true then te σ2 H3 fun y H4 => ∃ acc, H4 D = some (.lst acc) ∧ acc.length < sizeLine ∧ Nx (upd H4 D (.lst (acc ++ [y]))) else Nx H3) := by
  refine lc_all (K := K) w (bs.map PyData.int) (by rw [List.length_map, hl]) (tf_ints _) hn hD hG ?_ ?_ mg mt
  · intro i x H H' hi s y d hd' R hR
    rw [List.getElem?_map] at hd'
    cases e : bs[i]? with
    | none => rw [e] at hd'; cases hd'
    | some b =>
      rw [e] at hd'
      cases hd'
      exact hs i x H H' hi s y b e R fun H4 s4 => hR _ _ s4 (.int b)
  · intro H acc s ha hA
    rw [dp_ints_inv hA] at ha
    exact hd H s ha
theorem k_pgTN {X : Cx} {K : PySem.W.Frag} {x y z : Str} {px py pz p1 : Pos} {k k1 : Nat} {pos : Pos} {t1 t2 : TG} (hK : X.K = K) (hc : X.calm = true) (h1 : PG X (.Tuple [.Name x px, .Name y py] k1 p1) t1) (h2 : PG X (.Name z pz) t2) : PG X (.Tuple [.Tuple [.Name x px, .Name y py] k1 p1, .Name z pz] k pos) (gTup K 2 (gCons t1 (gCons t2 gNil))) := by
  subst hK
  exact pg_tup hc (pgs_cons h1 (pgs_cons h2 pgs_nil))
theorem mono_pair2 {K : PySem.W.Frag} {n n' i j l : Nat} (x : V) (σ' : L2.St) (H' : Hp) (Q Q' : L2.St → Hp → Prop) (h : ∀ a b, Q a b → Q' a b) (e : gTup K n (gCons (gTup K n' (gCons (gName i) (gCons (gName j) gNil))) (gCons (gName l) gNil)) x σ' H' Q) : gTup K n (gCons (gTup K n' (gCons (gName i) (gCons (gName j) gNil))) (gCons (gName l) gNil)) x σ' H' Q' := by
  obtain ⟨a, xs, e1, e2, e3, v, r, e4, b, ys, f1, f2, f3, v1, r1, f4, v2, r2, f5, f6, v', r', e5, e6, q⟩ := e
  exact ⟨a, xs, e1, e2, e3, v, r, e4, b, ys, f1, f2, f3, v1, r1, f4, v2, r2, f5, f6, v', r', e5, e6, h _ _ q⟩
theorem ci_sum : ∀ p : List Nat, (ci p).sum = ((p.sum : Nat) : Int)
  | [] => rfl
  | x :: p => by
    have := ci_sum p
    simp only [ci, List.map_cons, List.sum_cons, Int.natCast_add] at this ⊢
    rw [this]
theorem cutV_to {p : List Nat} {m : Nat} (h : m ≤ p.length) : cutV (vi p) none (some (m : Int)) = vi (p.take m) := by
  rw [cut_to (by rw [vi_len]; exact h)]; simp [vi, List.map_take]
theorem cutV_from {p : List Nat} {m : Nat} (h : m ≤ p.length) : cutV (vi p) (some (m : Int)) none = vi (p.drop m) := by
  rw [cut_from (by rw [vi_len]; exact h)]; simp [vi, List.map_drop]
theorem cut_drop {p : List Nat} {m : Nat} (h : m ≤ p.length) : cutV (vi p) (some (m : Int)) none = (ci (p.drop m)).map V.int := by
  rw [cutV_from h, vi_ci]
theorem isi_int {K : PySem.W.Frag} {H : Hp} {i : Int} {Q : VK} (q : Q (.bl true) H) : rIsi K [.int i, .ty "int"] H Q :=
  ⟨.int i, .ty "int", .type "int", .type "int", true, rfl, .ty _, .base (.int i), kit_ty (by decide +kernel), q⟩
theorem isi_bool {K : PySem.W.Frag} {H : Hp} {i : Int} {Q : VK} (q : Q (.bl false) H) : rIsi K [.int i, .ty "bool"] H Q :=
  ⟨.int i, .ty "bool", .type "int", .type "bool", false, rfl, .ty _, .base (.int i), kit_ty (by decide +kernel), q⟩
theorem nth3 {n : Nat} (x : List V) (h : x.length = n) (i : Nat) (hi : i < (if (if (x.length : Int) < 3 then (x.length : Int) else 3) > 1 then (if (x.length : Int) < 3 then (x.length : Int) else 3) else 1 : Int).toNat) : i ≤ 62 := by
  have : (if (if (x.length : Int) < 3 then (x.length : Int) else 3) > 1 then (if (x.length : Int) < 3 then (x.length : Int) else 3) else 1) ≤ 3 := by split <;> split <;> omega
  omega
end MB

set_option maxHeartbeats 4000000
namespace MB
/-! ### binomial coefficients -/
def bin : Nat → Nat → Nat
  | _, 0 => 1
  | 0, _ + 1 => 0
  | n + 1, k + 1 => bin n k + bin n (k + 1)
theorem bin_zero (n : Nat) : bin n 0 = 1 := by cases n <;> rfl
theorem bin_succ (n k : Nat) : bin (n + 1) (k + 1) = bin n k + bin n (k + 1) := rfl
theorem bin_lt : ∀ {n k : Nat}, n < k → bin n k = 0
  | 0, k + 1, _ => rfl
  | n + 1, k + 1, h => by rw [bin_succ, bin_lt (n := n) (by omega), bin_lt (n := n) (by omega)]
theorem bin_self : ∀ n : Nat, bin n n = 1
  | 0 => rfl
  | n + 1 => by rw [bin_succ, bin_self n, bin_lt (by omega)]
theorem bin_one : ∀ n : Nat, bin n 1 = n
  | 0 => rfl
  | n + 1 => by rw [bin_succ, bin_zero, bin_one n]; omega
theorem bin_pos : ∀ {n k : Nat}, k ≤ n → 0 < bin n k
  | n, 0, _ => by rw [bin_zero]; decide
  | n + 1, k + 1, h => by rw [bin_succ]; have := bin_pos (n := n) (k := k) (by omega); omega
theorem bin_mul : ∀ n k : Nat, bin (n + 1) (k + 1) * (k + 1) = (n + 1) * bin n k
  | 0, 0 => by decide
  | 0, k + 1 => by simp [bin]
  | n + 1, 0 => by rw [bin_one, bin_zero]
  | n + 1, k + 1 => by
    have h1 := bin_mul n k
    have h2 := bin_mul n (k + 1)
    rw [bin_succ (n + 1) (k + 1), Nat.add_mul, h2]
    have e1 : bin (n + 1) (k + 1) * (k + 1 + 1) = bin (n + 1) (k + 1) * (k + 1) + bin (n + 1) (k + 1) := by rw [Nat.mul_add, Nat.mul_one]
    rw [e1, h1, bin_succ n k]
    grind
/-- the next one in a row -/
theorem bin_step {n j : Nat} (h : j ≤ n) : bin n (j + 1) * (j + 1) = bin n j * (n - j) := by
  have h1 := bin_mul n j
  rw [bin_succ, Nat.add_mul] at h1
  have e : (n + 1) * bin n j = bin n j * (n - j) + bin n j * (j + 1) := by rw [← Nat.mul_add, Nat.mul_comm]; congr 1; omega
  omega
theorem bin_div {n j : Nat} (h : j ≤ n) : bin n j * (n - j) / (j + 1) = bin n (j + 1) := by
  rw [← bin_step h, Nat.mul_div_cancel _ (by omega)]
theorem bin_sym : ∀ a b : Nat, bin (a + b) a = bin (a + b) b
  | 0, b => by rw [Nat.zero_add, bin_zero, bin_self]
  | a + 1, 0 => by rw [Nat.add_zero, bin_zero, bin_self]
  | a + 1, b + 1 => by
    have e : a + 1 + (b + 1) = (a + b + 1) + 1 := by omega
    rw [e, bin_succ (a + b + 1) a, bin_succ (a + b + 1) b]
    have h1 := bin_sym a (b + 1)
    have h2 := bin_sym (a + 1) b
    have e1 : a + (b + 1) = a + b + 1 := by omega
    have e2 : a + 1 + b = a + b + 1 := by omega
    rw [e1] at h1; rw [e2] at h2
    omega
theorem bin_sub {n k : Nat} (h : k ≤ n) : bin n (n - k) = bin n k := by
  have := bin_sym k (n - k)
  rw [show k + (n - k) = n by omega] at this
  exact this.symm
theorem bin_min {n k : Nat} (h : k ≤ n) : bin n (min k (n - k)) = bin n k := by
  by_cases c : k ≤ n - k
  · rw [Nat.min_eq_left c]
  · rw [Nat.min_eq_right (by omega), bin_sub h]
theorem bin_mono1 : ∀ n k : Nat, bin n k ≤ bin (n + 1) k
  | n, 0 => by rw [bin_zero, bin_zero]; exact Nat.le_refl _
  | n, k + 1 => by rw [bin_succ]; omega
theorem bin_mono {n m : Nat} (k : Nat) (h : n ≤ m) : bin n k ≤ bin m k := by
  induction h with
  | refl => exact Nat.le_refl _
  | step _ ih => exact Nat.le_trans ih (bin_mono1 _ _)
theorem bin_strict1 {n k : Nat} (h : k ≤ n + 1) : bin n (k + 1) < bin (n + 1) (k + 1) ∨ n < k := by
  by_cases c : n < k
  · exact .inr c
  · refine .inl ?_
    rw [bin_succ]
    have := bin_pos (n := n) (k := k) (by omega)
    omega
theorem bin_strict {n m k : Nat} (hk : 1 ≤ k) (hn : k ≤ n + 1) (h : n < m) : bin n k < bin m k := by
  have h1 : bin n k < bin (n + 1) k := by
    obtain ⟨j, rfl⟩ : ∃ j, k = j + 1 := ⟨k - 1, by omega⟩
    rw [bin_succ]
    have := bin_pos (n := n) (k := j) (by omega)
    omega
  exact Nat.lt_of_lt_of_le h1 (bin_mono k h)
theorem bin_pow : ∀ n k : Nat, bin n k ≤ (n + 1) ^ k
  | n, 0 => by rw [bin_zero]; simp
  | 0, k + 1 => by rw [bin_lt (by omega)]; exact Nat.zero_le _
  | n + 1, k + 1 => by
    have h := bin_mul n k
    have h1 : bin (n + 1) (k + 1) ≤ bin (n + 1) (k + 1) * (k + 1) := Nat.le_mul_of_pos_right _ (by omega)
    have h2 := bin_pow n k
    have h3 : (n + 1) ^ k ≤ (n + 1 + 1) ^ k := Nat.pow_le_pow_left (by omega) _
    have h4 : (n + 1) * bin n k ≤ (n + 1 + 1) * (n + 1 + 1) ^ k := Nat.mul_le_mul (by omega) (Nat.le_trans h2 h3)
    have h5 : (n + 1 + 1) ^ (k + 1) = (n + 1 + 1) * (n + 1 + 1) ^ k := by rw [Nat.pow_succ, Nat.mul_comm]
    omega
theorem bin_bits {n k : Nat} (hn : n < 2 ^ 64) (hk : k ≤ 64) : bin n k < 2 ^ 4097 := by
  have h1 := bin_pow n k
  have h2 : (n + 1) ^ k ≤ (2 ^ 64) ^ k := Nat.pow_le_pow_left (by omega) _
  have h3 : (2 ^ 64) ^ k ≤ (2 ^ 64 : Nat) ^ 64 := Nat.pow_le_pow_right (by decide) hk
  have h4 : ((2 ^ 64 : Nat) ^ 64) < 2 ^ 4097 := by decide +kernel
  omega
theorem bin_big {k c : Nat} (hk : 1 ≤ k) : c + 1 ≤ bin (k + c) k := by
  induction c with
  | zero => show 1 ≤ bin k k; rw [bin_self]; exact Nat.le_refl _
  | succ c ih =>
    have := bin_strict (n := k + c) (m := k + (c + 1)) (k := k) hk (by omega) (by omega)
    omega
/-- c is the least with n < C(k + c, k) -/
def Lw (k n c : Nat) : Prop := n < bin (k + c) k ∧ ∀ d, d < c → bin (k + d) k ≤ n
theorem Lw.uniq {k n c d : Nat} (a : Lw k n c) (b : Lw k n d) : c = d := by
  rcases Nat.lt_trichotomy c d with h | h | h
  · have := b.2 c h; have := a.1; omega
  · exact h
  · have := a.2 d h; have := b.1; omega
theorem Lw.mk' {k n c : Nat} (h : n < bin (k + c) k) (h' : c = 0 ∨ bin (k + (c - 1)) k ≤ n) : Lw k n c := by
  refine ⟨h, fun d hd => ?_⟩
  rcases h' with e | e
  · omega
  · exact Nat.le_trans (bin_mono k (by omega)) e
def lwGo (k n : Nat) : Nat → Nat → Nat
  | 0, c => c
  | f + 1, c => if n < bin (k + c) k then c else lwGo k n f (c + 1)
def lw (k n : Nat) : Nat := lwGo k n (n + 1) 0
theorem lwGo_ok {k n : Nat} (hk : 1 ≤ k) : ∀ f c, (∀ d, d < c → bin (k + d) k ≤ n) → n < f + c → Lw k n (lwGo k n f c)
  | 0, c, h, hf => ⟨by have := bin_big (k := k) (c := c) hk; unfold lwGo; omega, h⟩
  | f + 1, c, h, hf => by
    unfold lwGo
    by_cases hc : n < bin (k + c) k
    · rw [if_pos hc]; exact ⟨hc, h⟩
    · rw [if_neg hc]
      refine lwGo_ok hk f (c + 1) (fun d hd => ?_) (by omega)
      by_cases e : d < c
      · exact h d e
      · have : d = c := by omega
        subst this; omega
theorem lw_ok {k : Nat} (n : Nat) (hk : 1 ≤ k) : Lw k n (lw k n) := lwGo_ok hk _ _ (fun _ h => absurd h (by omega)) (by omega)
theorem lw_le {k n : Nat} (hk : 1 ≤ k) : lw k n ≤ n := by
  have h := (lw_ok n hk).2
  by_cases c : lw k n ≤ n
  · exact c
  · have h1 := h n (by omega)
    have := bin_big (k := k) (c := n) hk
    omega
end MB

set_option maxHeartbeats 4000000
namespace MB
/-- the terms above 0 of the representation of n with k terms -/
def rl : Nat → Nat → List Nat
  | 0, _ => []
  | k + 1, n => if n = 0 then [] else bin (k + lw (k + 1) n) (k + 1) :: rl k (n - bin (k + lw (k + 1) n) (k + 1))
theorem rl_zero (k : Nat) : rl k 0 = [] := by cases k <;> simp [rl]
theorem rl_succ {k n : Nat} (h : n ≠ 0) : rl (k + 1) n = bin (k + lw (k + 1) n) (k + 1) :: rl k (n - bin (k + lw (k + 1) n) (k + 1)) := by simp [rl, h]
theorem lw_pos {k n : Nat} (hk : 1 ≤ k) (hn : n ≠ 0) : 1 ≤ lw k n := by
  have h := (lw_ok n hk).1
  by_cases c : lw k n = 0
  · rw [c] at h
    have : bin (k + 0) k = 1 := bin_self k
    omega
  · omega
theorem top_le {k n : Nat} (hn : n ≠ 0) : bin (k + lw (k + 1) n) (k + 1) ≤ n := by
  have h1 := lw_pos (k := k + 1) (by omega) hn
  have h2 := (lw_ok (k := k + 1) n (by omega)).2 (lw (k + 1) n - 1) (by omega)
  rwa [show k + 1 + (lw (k + 1) n - 1) = k + lw (k + 1) n by omega] at h2
theorem top_pos {k n : Nat} (hn : n ≠ 0) : 0 < bin (k + lw (k + 1) n) (k + 1) :=
  bin_pos (by have := lw_pos (k := k + 1) (by omega) hn; omega)
theorem rest_lt {k n : Nat} (hn : n ≠ 0) : n - bin (k + lw (k + 1) n) (k + 1) < bin (k + lw (k + 1) n) k := by
  have h1 := (lw_ok (k := k + 1) n (by omega)).1
  have h2 := top_le (k := k) hn
  rw [show k + 1 + lw (k + 1) n = (k + lw (k + 1) n) + 1 by omega, bin_succ] at h1
  omega
theorem rest_zero {n : Nat} (hn : n ≠ 0) : n - bin (0 + lw (0 + 1) n) (0 + 1) = 0 := by
  have := rest_lt (k := 0) hn
  rw [bin_zero] at this
  omega
theorem rl_sum : ∀ k n : Nat, (k = 0 → n = 0) → (rl k n).sum = n
  | 0, n, h => by rw [h rfl]; rfl
  | k + 1, n, _ => by
    by_cases hn : n = 0
    · subst hn; rw [rl_zero]; rfl
    · rw [rl_succ hn, List.sum_cons, rl_sum k _ (fun e => by subst e; exact rest_zero hn)]
      have := top_le (k := k) hn
      omega
theorem rl_len : ∀ k n : Nat, (rl k n).length ≤ k
  | 0, n => by simp [rl]
  | k + 1, n => by
    by_cases hn : n = 0
    · subst hn; rw [rl_zero]; simp
    · rw [rl_succ hn, List.length_cons]
      have := rl_len k (n - bin (k + lw (k + 1) n) (k + 1))
      omega
theorem rl_pos : ∀ k n : Nat, ∀ x, x ∈ rl k n → 0 < x ∧ x ≤ n
  | 0, n, x, h => by simp [rl] at h
  | k + 1, n, x, h => by
    by_cases hn : n = 0
    · subst hn; rw [rl_zero] at h; cases h
    · rw [rl_succ hn] at h
      rcases List.mem_cons.mp h with h | h
      · rw [h]; exact ⟨top_pos hn, top_le hn⟩
      · have := rl_pos k _ x h
        omega
/-- the last flush's run holds what was merged and its own -/
theorem rl_step : ∀ k n : Nat, ∃ m, m ≤ (rl (k + 1) n).length ∧ rl (k + 1) (n + 1) = (rl (k + 1) n).take m ++ [1 + ((rl (k + 1) n).drop m).sum]
  | k, n => by
    by_cases hn : n = 0
    · subst hn
      refine ⟨0, Nat.zero_le _, ?_⟩
      rw [rl_zero, rl_succ (by omega)]
      have e : lw (k + 1) (0 + 1) = 1 := (lw_ok (0 + 1) (by omega)).uniq (Lw.mk' (by
        have := bin_big (k := k + 1) (c := 1) (by omega); omega) (.inr (by rw [show k + 1 + (1 - 1) = k + 1 by omega, bin_self]; exact Nat.le_refl _)))
      rw [e, bin_self, show 0 + 1 - 1 = 0 by omega, rl_zero]
      rfl
    · have hc := lw_ok (k := k + 1) n (by omega)
      by_cases hlt : n + 1 < bin (k + 1 + lw (k + 1) n) (k + 1)
      · have e : lw (k + 1) (n + 1) = lw (k + 1) n := (lw_ok (n + 1) (by omega)).uniq ⟨hlt, fun d hd => Nat.le_succ_of_le (hc.2 d hd)⟩
        cases k with
        | zero =>
          exfalso
          have h1 := rest_zero hn
          rw [bin_one] at h1 hlt
          have h2 := top_le (k := 0) hn
          rw [bin_one] at h2
          omega
        | succ k =>
          have hT := top_le (k := k + 1) hn
          obtain ⟨m, hm, hs⟩ := rl_step k (n - bin (k + 1 + lw (k + 1 + 1) n) (k + 1 + 1))
          refine ⟨m + 1, ?_, ?_⟩
          · rw [rl_succ hn, List.length_cons]; omega
          · rw [rl_succ (n := n + 1) (by omega), e, rl_succ hn, show n + 1 - bin (k + 1 + lw (k + 1 + 1) n) (k + 1 + 1) = n - bin (k + 1 + lw (k + 1 + 1) n) (k + 1 + 1) + 1 by omega, hs]
            simp
      · have e0 : n + 1 = bin (k + 1 + lw (k + 1) n) (k + 1) := by have := hc.1; omega
        have e : lw (k + 1) (n + 1) = lw (k + 1) n + 1 := (lw_ok (n + 1) (by omega)).uniq (Lw.mk' (by
          rw [e0]; exact bin_strict (by omega) (by omega) (by omega)) (.inr (by rw [show lw (k + 1) n + 1 - 1 = lw (k + 1) n by omega]; omega)))
        refine ⟨0, Nat.zero_le _, ?_⟩
        rw [rl_succ (n := n + 1) (by omega), e, show k + (lw (k + 1) n + 1) = k + 1 + lw (k + 1) n by omega, ← e0, Nat.sub_self, rl_zero]
        have := rl_sum (k + 1) n (fun h => by omega)
        simp [this]
        omega
/-- just behind a lifetime there is one run -/
theorem rl_edge {k c : Nat} (hk : 1 ≤ k) : rl k (bin (k + c) k) = [bin (k + c) k] := by
  obtain ⟨j, rfl⟩ : ∃ j, k = j + 1 := ⟨k - 1, by omega⟩
  have hp := bin_pos (n := j + 1 + c) (k := j + 1) (by omega)
  have e : lw (j + 1) (bin (j + 1 + c) (j + 1)) = c + 1 := (lw_ok _ (by omega)).uniq (Lw.mk' (bin_strict (by omega) (by omega) (by omega)) (.inr (by rw [show c + 1 - 1 = c by omega]; exact Nat.le_refl _)))
  rw [rl_succ (by omega), e, show j + (c + 1) = j + 1 + c by omega, Nat.sub_self, rl_zero]
/-- each term is a binomial coefficient, with falling upper numbers -/
theorem rl_tops : ∀ k n a : Nat, n < bin a k → ∃ ts : List Nat, ts.length = (rl k n).length ∧ (∀ i t, ts[i]? = some t → (rl k n)[i]? = some (bin t (k - i)) ∧ k - i ≤ t ∧ 1 ≤ k - i ∧ t < a) ∧ ∀ i t u, ts[i]? = some t → ts[i + 1]? = some u → u < t
  | 0, n, a, h => ⟨[], by simp [rl], by simp, by simp⟩
  | k + 1, n, a, h => by
    by_cases hn : n = 0
    · subst hn; exact ⟨[], by rw [rl_zero], by simp, by simp⟩
    · have h1 := lw_pos (k := k + 1) (by omega) hn
      have hlt : k + lw (k + 1) n < a := by
        have h2 := top_le (k := k) hn
        by_cases c : k + lw (k + 1) n < a
        · exact c
        · have := bin_mono (n := a) (m := k + lw (k + 1) n) (k + 1) (by omega); omega
      obtain ⟨ts, e1, e2, e3⟩ := rl_tops k (n - bin (k + lw (k + 1) n) (k + 1)) (k + lw (k + 1) n) (rest_lt hn)
      refine ⟨(k + lw (k + 1) n) :: ts, by rw [rl_succ hn]; simp [e1], ?_, ?_⟩
      · intro i t ht
        cases i with
        | zero =>
          simp only [List.getElem?_cons_zero, Option.some.injEq] at ht
          subst ht
          refine ⟨by rw [rl_succ hn]; rfl, by omega, by omega, hlt⟩
        | succ i =>
          simp only [List.getElem?_cons_succ] at ht
          obtain ⟨g1, g2, g3, g4⟩ := e2 i t ht
          refine ⟨by rw [rl_succ hn, List.getElem?_cons_succ, show k + 1 - (i + 1) = k - i by omega]; exact g1, by omega, by omega, by omega⟩
      · intro i t u ht hu
        cases i with
        | zero =>
          simp only [List.getElem?_cons_zero, Option.some.injEq] at ht
          simp only [List.getElem?_cons_succ] at hu
          subst ht
          exact (e2 0 u hu).2.2.2
        | succ i =>
          simp only [List.getElem?_cons_succ] at ht hu
          exact e3 i t u ht hu
end MB

set_option maxHeartbeats 4000000
namespace MB
/-! ### states: the greatest of the newer runs, what is left -/
def mx : List Nat → Nat
  | [] => 0
  | x :: xs => max x (mx xs)
theorem mx_cons (x : Nat) (xs : List Nat) : mx (x :: xs) = max x (mx xs) := rfl
theorem mx_fold : ∀ (xs : List Nat) (x : Nat), (xs.map (fun (m : Nat) => (m : Int))).foldl max (x : Int) = ((mx (x :: xs) : Nat) : Int)
  | [], x => by simp [mx]
  | y :: ys, x => by
    rw [List.map_cons, List.foldl_cons, show max (x : Int) (y : Int) = ((max x y : Nat) : Int) by omega, mx_fold ys (max x y)]
    simp only [mx]
    omega
theorem mx_le {c : Nat} : ∀ {xs : List Nat}, (∀ x, x ∈ xs → x ≤ c) → mx xs ≤ c
  | [], _ => Nat.zero_le _
  | x :: xs, h => by
    have h1 := h x (List.mem_cons_self ..)
    have h2 := mx_le (c := c) (xs := xs) fun y hy => h y (List.mem_cons_of_mem _ hy)
    rw [mx_cons]; omega
theorem mx_mem {x : Nat} : ∀ {xs : List Nat}, x ∈ xs → x ≤ mx xs
  | y :: ys, h => by
    rw [mx_cons]
    rcases List.mem_cons.mp h with h | h
    · subst h; omega
    · have := mx_mem h; omega
/-- a state within (k, c) -/
def Sta (k c : Nat) (st : List Nat) : Prop := st.length ≤ k ∧ ∀ x, x ∈ st → 1 ≤ x ∧ x ≤ c
theorem Sta.tail {k c x : Nat} {xs : List Nat} (h : Sta k c (x :: xs)) : Sta (k - 1) (mx (x :: xs)) xs :=
  ⟨by have := h.1; rw [List.length_cons] at this; omega, fun y hy => ⟨(h.2 y (List.mem_cons_of_mem _ hy)).1, by have := mx_mem hy; rw [mx_cons]; omega⟩⟩
theorem Sta.mx_le {k c : Nat} {st : List Nat} (h : Sta k c st) : mx st ≤ c := MB.mx_le fun x hx => (h.2 x hx).2
theorem Sta.mx_pos {k c x : Nat} {xs : List Nat} (h : Sta k c (x :: xs)) : 1 ≤ mx (x :: xs) := by
  have := (h.2 x (List.mem_cons_self ..)).1
  rw [mx_cons]; omega
theorem Sta.mono {k c k' c' : Nat} {st : List Nat} (h : Sta k c st) (h1 : k ≤ k') (h2 : c ≤ c') : Sta k' c' st :=
  ⟨by have := h.1; omega, fun x hx => ⟨(h.2 x hx).1, by have := (h.2 x hx).2; omega⟩⟩
/-- as the program adds it up -/
def remv : Nat → Nat → List Nat → Int
  | k, c, [] => (bin (k + c) k : Int) - 1
  | k, c, x :: xs => ((bin (k + c) k : Int) - (bin (k + mx (x :: xs)) k : Int)) + remv (k - 1) (mx (x :: xs)) xs
/-- what each run takes off -/
def brd : Nat → List Nat → Nat
  | _, [] => 0
  | k, x :: xs => bin (k + mx (x :: xs) - 1) k + brd (k - 1) xs
theorem pascal {k m : Nat} (hk : 1 ≤ k) (hm : 1 ≤ m) : bin (k + m) k = bin (k - 1 + m) (k - 1) + bin (k + m - 1) k := by
  obtain ⟨j, rfl⟩ : ∃ j, k = j + 1 := ⟨k - 1, by omega⟩
  rw [show j + 1 + m = (j + m) + 1 by omega, bin_succ, show j + 1 - 1 + m = j + m by omega, show j + 1 - 1 = j by omega, show j + m + 1 - 1 = j + m by omega]
theorem remv_brd : ∀ {k c : Nat} {st : List Nat}, Sta k c st → remv k c st = (bin (k + c) k : Int) - 1 - (brd k st : Int)
  | k, c, [], _ => by simp [remv, brd]
  | k, c, x :: xs, h => by
    have h1 := remv_brd h.tail
    have hk : 1 ≤ k := by have := h.1; rw [List.length_cons] at this; omega
    have hp := pascal hk h.mx_pos
    simp only [remv, brd]
    rw [h1]
    omega
theorem brd_le : ∀ {k c : Nat} {st : List Nat}, Sta k c st → brd k st + 1 ≤ bin (k + c) k
  | k, c, [], _ => by have := bin_pos (n := k + c) (k := k) (by omega); simp [brd]; omega
  | k, c, x :: xs, h => by
    have h1 := brd_le h.tail
    have hk : 1 ≤ k := by have := h.1; rw [List.length_cons] at this; omega
    have hp := pascal hk h.mx_pos
    have hm := bin_mono (n := k + mx (x :: xs)) (m := k + c) k (by have := h.mx_le; omega)
    simp only [brd]
    omega
theorem brd_room : ∀ {k c : Nat} {st : List Nat}, Sta k c st → 1 ≤ c → brd (k + 1) st + 1 ≤ brd k st + bin (k + c) (k + 1)
  | k, c, [], _, hc => by have := bin_pos (n := k + c) (k := k + 1) (by omega); simp [brd]; omega
  | k, c, x :: xs, h, hc => by
    have hk : 1 ≤ k := by have := h.1; rw [List.length_cons] at this; omega
    have h1 := brd_room h.tail h.mx_pos
    obtain ⟨j, rfl⟩ : ∃ j, k = j + 1 := ⟨k - 1, by omega⟩
    have hp := h.mx_pos
    have hm := bin_mono (n := j + 1 + mx (x :: xs)) (m := j + 1 + c) (j + 1 + 1) (by have := h.mx_le; omega)
    simp only [brd]
    rw [show j + 1 + 1 - 1 = j + 1 by omega, show j + 1 - 1 = j by omega] at *
    generalize mx (x :: xs) = M at *
    obtain ⟨m, rfl⟩ : ∃ m, M = m + 1 := ⟨M - 1, by omega⟩
    have e1 : bin (j + 1 + 1 + (m + 1) - 1) (j + 1 + 1) = bin (j + (m + 1)) (j + 1) + bin (j + 1 + m) (j + 1 + 1) := by
      rw [show j + 1 + 1 + (m + 1) - 1 = (j + m + 1) + 1 by omega, bin_succ, show j + m + 1 = j + (m + 1) by omega, show j + 1 + m = j + (m + 1) by omega]
    have e2 : bin (j + 1 + (m + 1)) (j + 1 + 1) = bin (j + (m + 1)) (j + 1) + bin (j + 1 + m) (j + 1 + 1) := by
      rw [show j + 1 + (m + 1) = (j + (m + 1)) + 1 by omega, bin_succ, show j + 1 + m = j + (m + 1) by omega]
    rw [show j + 1 + (m + 1) - 1 = j + (m + 1) by omega]
    omega
/-- element by element at most -/
def Le2 : List Nat → List Nat → Prop
  | [], _ => True
  | _ :: _, [] => False
  | x :: xs, y :: ys => x ≤ y ∧ Le2 xs ys
theorem Le2.refl : ∀ xs : List Nat, Le2 xs xs
  | [] => trivial
  | _ :: xs => ⟨Nat.le_refl _, Le2.refl xs⟩
theorem Le2.mx : ∀ {xs ys : List Nat}, Le2 xs ys → mx xs ≤ mx ys
  | [], _, _ => Nat.zero_le _
  | _ :: _, _ :: _, h => by
    have := Le2.mx h.2
    have := h.1
    rw [mx_cons, mx_cons]; omega
theorem Le2.brd : ∀ {k : Nat} {xs ys : List Nat}, Le2 xs ys → brd k xs ≤ brd k ys
  | _, [], _, _ => Nat.zero_le _
  | k, x :: xs, y :: ys, h => by
    have h1 := Le2.brd (k := k - 1) h.2
    have h2 := Le2.mx (xs := x :: xs) (ys := y :: ys) h
    have h3 := bin_mono (n := k + MB.mx (x :: xs) - 1) (m := k + MB.mx (y :: ys) - 1) k (by omega)
    simp only [MB.brd]
    omega
theorem Le2.dropLast : ∀ xs : List Nat, Le2 xs.dropLast xs
  | [] => trivial
  | [_] => trivial
  | x :: y :: xs => ⟨Nat.le_refl _, Le2.dropLast (y :: xs)⟩
theorem Le2.set : ∀ {xs : List Nat} {i v x : Nat}, xs[i]? = some x → v ≤ x → Le2 (xs.set i v) xs
  | [], i, v, x, h, _ => by simp at h
  | y :: ys, 0, v, x, h, hv => by
    simp at h; subst h
    exact ⟨hv, Le2.refl _⟩
  | y :: ys, i + 1, v, x, h, hv => ⟨Nat.le_refl _, Le2.set (by simpa using h) hv⟩
theorem brd_tail : ∀ {k x : Nat} {xs : List Nat}, brd k xs ≤ brd k (x :: xs)
  | k, x, [] => Nat.zero_le _
  | k, x, y :: ys => by
    have h1 := brd_tail (k := k - 1) (x := y) (xs := ys)
    have h3 := bin_mono (n := k + mx (y :: ys) - 1) (m := k + mx (x :: y :: ys) - 1) k (by simp only [mx]; omega)
    show bin (k + mx (y :: ys) - 1) k + brd (k - 1) ys ≤ bin (k + mx (x :: y :: ys) - 1) k + brd (k - 1) (y :: ys)
    omega
end MB

set_option maxHeartbeats 4000000
namespace MB
/-- the state after a flush that merges m runs -/
def sa (st : List Nat) (m : Nat) : List Nat := st.take (st.length - m) ++ [1 + mx (st.drop (st.length - m))]
theorem mx_append : ∀ xs ys : List Nat, mx (xs ++ ys) = max (mx xs) (mx ys)
  | [], ys => by simp [mx]
  | x :: xs, ys => by rw [List.cons_append, mx_cons, mx_cons, mx_append xs ys]; omega
theorem sa_all (st : List Nat) : sa st st.length = [1 + mx st] := by simp [sa]
theorem sa_cons {x : Nat} {xs : List Nat} {m : Nat} (h : m ≤ xs.length) : sa (x :: xs) m = x :: sa xs m := by
  unfold sa
  rw [List.length_cons, show xs.length + 1 - m = (xs.length - m) + 1 by omega]
  simp
theorem sa_len {st : List Nat} {m : Nat} (h : m ≤ st.length) : (sa st m).length = st.length - m + 1 := by
  unfold sa
  rw [List.length_append, List.length_take]
  simp
theorem sa_mx {st : List Nat} {m : Nat} : mx st ≤ mx (sa st m) := by
  unfold sa
  rw [mx_append]
  have h := mx_append (st.take (st.length - m)) (st.drop (st.length - m))
  rw [List.take_append_drop] at h
  simp only [mx]
  omega
/-- elements from 1 on, as many as there is room for -/
def Pos (k : Nat) (st : List Nat) : Prop := st.length ≤ k ∧ ∀ x, x ∈ st → 1 ≤ x
theorem Sta.pos {k c : Nat} {st : List Nat} (h : Sta k c st) : Pos k st := ⟨h.1, fun x hx => (h.2 x hx).1⟩
theorem Pos.sta {k : Nat} {st : List Nat} (h : Pos k st) : Sta k (mx st) st := ⟨h.1, fun x hx => ⟨h.2 x hx, mx_mem hx⟩⟩
theorem Pos.tail {k x : Nat} {xs : List Nat} (h : Pos k (x :: xs)) : Pos (k - 1) xs ∧ 1 ≤ k ∧ 1 ≤ x :=
  ⟨⟨by have := h.1; rw [List.length_cons] at this; omega, fun y hy => h.2 y (List.mem_cons_of_mem _ hy)⟩, by have := h.1; rw [List.length_cons] at this; omega, h.2 x (List.mem_cons_self ..)⟩
theorem brd_one (k v : Nat) : brd k [1 + v] = bin (k + v) k := by
  simp only [brd, mx]
  rw [show k + max (1 + v) 0 - 1 = k + v by omega]; rfl
/-- every flush costs at least one -/
theorem brd_sa : ∀ {k : Nat} {st : List Nat} {m : Nat}, Pos k st → m ≤ st.length → brd k st + 1 ≤ brd k (sa st m)
  | k, [], m, h, hm => by
    have : m = 0 := by simpa using hm
    subst this
    show brd k [] + 1 ≤ brd k [1 + 0]
    rw [brd_one, show k + 0 = k by omega, bin_self]
    simp [brd]
  | k, x :: xs, m, h, hm => by
    by_cases e : m = xs.length + 1
    · subst e
      rw [show xs.length + 1 = (x :: xs).length from rfl, sa_all, brd_one]
      exact brd_le h.sta
    · have hm' : m ≤ xs.length := by rw [List.length_cons] at hm; omega
      obtain ⟨h1, hk, hx⟩ := h.tail
      have ih := brd_sa h1 hm'
      rw [sa_cons hm']
      have hm2 := sa_mx (st := xs) (m := m)
      have hb := bin_mono (n := k + mx (x :: xs) - 1) (m := k + mx (x :: sa xs m) - 1) k (by rw [mx_cons, mx_cons]; omega)
      simp only [brd]
      omega
/-- what stands before the merged runs is greater than they are; these are exhausted -/
def Tight (k : Nat) (st : List Nat) (j : Nat) : Prop := (j = 0 ∨ ∃ y, st[j - 1]? = some y ∧ mx (st.drop j) < y) ∧ brd (k - j) (st.drop j) + 1 = bin (k - j + mx (st.drop j)) (k - j)
theorem brd_sa_eq : ∀ {k : Nat} {st : List Nat} {m : Nat}, Pos k st → m ≤ st.length → (brd k (sa st m) = brd k st + 1 ↔ Tight k st (st.length - m))
  | k, [], m, h, hm => by
    have : m = 0 := by simpa using hm
    subst this
    have e1 : brd k (sa [] 0) = 1 := by
      show brd k [1 + 0] = 1
      rw [brd_one, show k + 0 = k by omega, bin_self]
    rw [e1]
    refine ⟨fun _ => ⟨.inl rfl, ?_⟩, fun _ => by simp [brd]⟩
    simp only [List.drop_nil, mx, brd, List.length_nil]
    rw [show k - (0 - 0) + 0 = k - (0 - 0) by omega, bin_self]
  | k, x :: xs, m, h, hm => by
    by_cases e : m = xs.length + 1
    · subst e
      rw [show xs.length + 1 = (x :: xs).length from rfl, sa_all, brd_one, Nat.sub_self]
      constructor
      · intro e
        refine ⟨.inl rfl, ?_⟩
        simp only [Nat.sub_zero, List.drop_zero]
        omega
      · rintro ⟨_, e⟩
        simp only [Nat.sub_zero, List.drop_zero] at e
        omega
    · have hm' : m ≤ xs.length := by rw [List.length_cons] at hm; omega
      obtain ⟨h1, hk, hx⟩ := h.tail
      have ih := brd_sa_eq h1 hm'
      have ih1 := brd_sa h1 hm'
      rw [sa_cons hm']
      have hm2 := sa_mx (st := xs) (m := m)
      have hb := bin_mono (n := k + mx (x :: xs) - 1) (m := k + mx (x :: sa xs m) - 1) k (by rw [mx_cons, mx_cons]; omega)
      have hJ : (x :: xs).length - m = (xs.length - m) + 1 := by rw [List.length_cons]; omega
      rw [hJ]
      have hd : (x :: xs).drop (xs.length - m + 1) = xs.drop (xs.length - m) := rfl
      have hkk : k - (xs.length - m + 1) = k - 1 - (xs.length - m) := by omega
      have e1 : brd k (x :: sa xs m) = bin (k + mx (x :: sa xs m) - 1) k + brd (k - 1) (sa xs m) := rfl
      have e2 : brd k (x :: xs) = bin (k + mx (x :: xs) - 1) k + brd (k - 1) xs := rfl
      have step : brd k (x :: sa xs m) = brd k (x :: xs) + 1 ↔ (mx (x :: sa xs m) = mx (x :: xs) ∧ brd (k - 1) (sa xs m) = brd (k - 1) xs + 1) := by
        constructor
        · intro e
          have hq : bin (k + mx (x :: sa xs m) - 1) k = bin (k + mx (x :: xs) - 1) k := by omega
          refine ⟨?_, by omega⟩
          by_cases c : mx (x :: sa xs m) = mx (x :: xs)
          · exact c
          · have h0 : 1 ≤ mx (x :: xs) := by rw [mx_cons]; omega
            have h00 : mx (x :: xs) < mx (x :: sa xs m) := by rw [mx_cons, mx_cons] at c ⊢; omega
            have := bin_strict (n := k + mx (x :: xs) - 1) (m := k + mx (x :: sa xs m) - 1) (k := k) hk (by omega) (by omega)
            omega
        · rintro ⟨c1, c2⟩
          rw [e1, e2, c1, c2]; omega
      rw [step, ih]
      unfold Tight
      rw [hd, hkk]
      have hdec : mx xs = max (mx (xs.take (xs.length - m))) (mx (xs.drop (xs.length - m))) := by
        rw [← mx_append, List.take_append_drop]
      have hsa : mx (sa xs m) = max (mx (xs.take (xs.length - m))) (1 + mx (xs.drop (xs.length - m))) := by
        unfold sa; rw [mx_append]; simp [mx]
      constructor
      · rintro ⟨c1, c2, c3⟩
        refine ⟨.inr ?_, c3⟩
        rcases c2 with c2 | ⟨y, y1, y2⟩
        · rw [c2] at hsa hdec ⊢
          simp only [List.take_zero, mx] at hsa hdec
          refine ⟨x, rfl, ?_⟩
          rw [mx_cons, mx_cons] at c1
          omega
        · by_cases z : xs.length - m = 0
          · rw [z] at hsa hdec ⊢
            simp only [List.take_zero, mx] at hsa hdec
            refine ⟨x, rfl, ?_⟩
            rw [mx_cons, mx_cons] at c1
            omega
          · refine ⟨y, ?_, y2⟩
            rw [show xs.length - m + 1 - 1 = (xs.length - m - 1) + 1 by omega, List.getElem?_cons_succ]
            exact y1
      · rintro ⟨c2, c3⟩
        rcases c2 with c2 | ⟨y, y1, y2⟩
        · omega
        · by_cases z : xs.length - m = 0
          · rw [z] at y1 y2 hsa hdec c3 ⊢
            simp only [List.take_zero, mx] at hsa hdec
            have : y = x := by simpa using y1.symm
            subst this
            refine ⟨by rw [mx_cons, mx_cons]; omega, .inl rfl, c3⟩
          · rw [show xs.length - m + 1 - 1 = (xs.length - m - 1) + 1 by omega, List.getElem?_cons_succ] at y1
            have hy : y ≤ mx (xs.take (xs.length - m)) := by
              refine mx_mem (List.mem_of_getElem? (i := xs.length - m - 1) ?_)
              rw [List.getElem?_take, if_pos (by omega)]; exact y1
            refine ⟨by rw [mx_cons, mx_cons]; omega, .inr ⟨y, y1, y2⟩, c3⟩
/-- nothing is left: no room, and the newest run at the limit -/
theorem exh_iff : ∀ {k R : Nat} {xs : List Nat}, Sta k R xs → (brd k xs + 1 = bin (k + R) k ↔ (R = 0 ∨ (xs.length = k ∧ ∀ y, xs.getLast? = some y → y = R)))
  | k, R, [], h => by
    simp only [brd, List.length_nil, List.getLast?_nil]
    constructor
    · intro e
      by_cases hR : R = 0
      · exact .inl hR
      · refine .inr ⟨?_, by simp⟩
        by_cases hk : k = 0
        · exact hk.symm
        · have := bin_big (k := k) (c := R) (by omega); omega
    · rintro (rfl | ⟨rfl, _⟩)
      · show 0 + 1 = bin k k
        rw [bin_self]
      · rw [bin_zero]
  | k, R, x :: xs, h => by
    have hk : 1 ≤ k := by have := h.1; rw [List.length_cons] at this; omega
    have hM := h.mx_pos
    have hMR := h.mx_le
    have ht := h.tail
    have hp := pascal hk hM
    have hle := brd_le ht
    have e2 : brd k (x :: xs) = bin (k + mx (x :: xs) - 1) k + brd (k - 1) xs := rfl
    have hR : R ≠ 0 := by omega
    have key : brd k (x :: xs) + 1 = bin (k + R) k ↔ (mx (x :: xs) = R ∧ brd (k - 1) xs + 1 = bin (k - 1 + R) (k - 1)) := by
      constructor
      · intro e
        have hmm : mx (x :: xs) = R := by
          by_cases c : mx (x :: xs) = R
          · exact c
          · have := bin_strict (n := k + mx (x :: xs)) (m := k + R) (k := k) hk (by omega) (by omega)
            omega
        rw [hmm] at hp e2
        exact ⟨hmm, by omega⟩
      · rintro ⟨c1, c2⟩
        rw [c1] at hp e2
        omega
    rw [key]
    constructor
    · rintro ⟨c1, c2⟩
      rw [c1] at ht
      rcases (exh_iff ht).mp c2 with c | ⟨c3, c4⟩
      · exact absurd c hR
      · refine .inr ⟨by rw [List.length_cons]; omega, fun y hy => ?_⟩
        cases xs with
        | nil =>
          have : y = x := by simpa using hy.symm
          subst this
          simpa [mx] using c1
        | cons z zs =>
          rw [List.getLast?_cons_cons] at hy
          exact c4 y hy
    · rintro (c | ⟨c3, c4⟩)
      · exact absurd c hR
      · have hlast : ∃ y, (x :: xs).getLast? = some y := ⟨(x :: xs).getLast (by simp), List.getLast?_eq_some_getLast (by simp)⟩
        obtain ⟨y, hy⟩ := hlast
        have hyR := c4 y hy
        subst hyR
        have hmm : mx (x :: xs) = y := by
          have := mx_mem (List.mem_of_getLast? hy)
          omega
        refine ⟨hmm, ?_⟩
        rw [hmm] at ht
        refine (exh_iff ht).mpr (.inr ⟨by rw [List.length_cons] at c3; omega, fun z hz => ?_⟩)
        cases xs with
        | nil => simp at hz
        | cons u us =>
          rw [List.getLast?_cons_cons] at hy
          rw [hz] at hy
          exact Option.some.inj hy
/-- the bound of what is merged: the next older run, or the limit of writes -/
def bnd (c : Nat) (st : List Nat) (j : Nat) : Nat := (c :: st).getD j 0
def tst (c : Nat) (st : List Nat) (m : Nat) : Prop := mx (st.drop (st.length - m)) < bnd c st (st.length - m)
def few (k : Nat) (st : List Nat) : Nat := if st.length < k then 0 else 1
/-- what best_merge returns -/
def Bm (k c : Nat) (st : List Nat) (m : Nat) : Prop := few k st ≤ m ∧ m ≤ st.length ∧ tst c st m ∧ ∀ m', few k st ≤ m' → m' < m → ¬ tst c st m'
def BmN (k c : Nat) (st : List Nat) : Prop := ∀ m, few k st ≤ m → m ≤ st.length → ¬ tst c st m
theorem bnd_zero {c : Nat} {st : List Nat} : bnd c st 0 = c := rfl
theorem bnd_succ {c j : Nat} {st : List Nat} {y : Nat} (h : st[j]? = some y) : bnd c st (j + 1) = y := by
  simp [bnd, List.getD_eq_getElem?_getD, h]
/-- while no test holds, the greatest of the merged runs is the newest one -/
theorem chain {c : Nat} {st : List Nat} {m : Nat} (hm : m ≤ st.length) (hno : ∀ m', 1 ≤ m' → m' < m → ¬ tst c st m') (h1 : 1 ≤ m) : ∀ y, st.getLast? = some y → mx (st.drop (st.length - m)) = y := by
  induction m with
  | zero => omega
  | succ m ih =>
    intro y hy
    by_cases hm0 : m = 0
    · subst hm0
      have hne : st ≠ [] := by intro e; subst e; simp at hy
      have hpos := List.length_pos_iff.mpr hne
      have e : st.drop (st.length - (0 + 1)) = [st.getLast hne] := by
        rw [List.drop_eq_getElem_cons (show st.length - (0 + 1) < st.length by omega), show st.length - (0 + 1) + 1 = st.length by omega, List.drop_length, List.getLast_eq_getElem]
      rw [e]
      rw [List.getLast?_eq_some_getLast hne] at hy
      have := Option.some.inj hy
      simp [mx, this]
    · have ih' := ih (by omega) (fun m' a b => hno m' a (by omega)) (by omega) y hy
      have hf := hno m (by omega) (by omega)
      have hj : st.length - m = (st.length - (m + 1)) + 1 := by omega
      have hlt : st.length - (m + 1) < st.length := by omega
      have ed : st.drop (st.length - (m + 1)) = st[st.length - (m + 1)] :: st.drop (st.length - m) := by
        rw [hj]; exact List.drop_eq_getElem_cons hlt
      unfold tst at hf
      rw [hj, bnd_succ (List.getElem?_eq_getElem hlt), ← hj] at hf
      rw [ed, mx_cons]
      omega
theorem last_mem {st : List Nat} {y : Nat} (h : st.getLast? = some y) : y ∈ st := List.mem_of_getLast? h
theorem sa_sta {k c : Nat} {st : List Nat} {m : Nat} (h : Sta k c st) (hm : m ≤ st.length) (h1 : st.length - m + 1 ≤ k) (h2 : 1 + mx (st.drop (st.length - m)) ≤ c) : Sta k c (sa st m) := by
  refine ⟨by rw [sa_len hm]; exact h1, fun x hx => ?_⟩
  unfold sa at hx
  rcases List.mem_append.mp hx with hx | hx
  · exact h.2 x (List.mem_of_mem_take hx)
  · have : x = 1 + mx (st.drop (st.length - m)) := by simpa using hx
    subst this
    omega
theorem tst_ok {k c : Nat} {st : List Nat} {m : Nat} (h : Sta k c st) (hm : m ≤ st.length) (ht : tst c st m) : 1 + mx (st.drop (st.length - m)) ≤ c ∧ (st.length - m = 0 ∨ ∃ y, st[st.length - m - 1]? = some y ∧ mx (st.drop (st.length - m)) < y) := by
  unfold tst at ht
  by_cases hj : st.length - m = 0
  · rw [hj, bnd_zero] at ht
    exact ⟨by rw [hj]; omega, .inl hj⟩
  · have hlt : st.length - m - 1 < st.length := by omega
    have e : st.length - m = (st.length - m - 1) + 1 := by omega
    have hb := bnd_succ (c := c) (List.getElem?_eq_getElem hlt)
    rw [← e] at hb
    rw [hb] at ht
    have := h.2 _ (List.getElem_mem hlt)
    exact ⟨by omega, .inr ⟨_, List.getElem?_eq_getElem hlt, ht⟩⟩
theorem Bm.good {k c : Nat} {st : List Nat} {m : Nat} (h : Sta k c st) (b : Bm k c st m) : Sta k c (sa st m) ∧ brd k (sa st m) = brd k st + 1 := by
  obtain ⟨b1, b2, b3, b4⟩ := b
  obtain ⟨t1, t2⟩ := tst_ok h b2 b3
  have hl := h.1
  by_cases hk : st.length < k
  · have hf : few k st = 0 := if_pos hk
    have hm0 : m = 0 := by
      by_cases c0 : m = 0
      · exact c0
      · exfalso
        refine b4 0 (by omega) (by omega) ?_
        unfold tst
        rw [Nat.sub_zero, List.drop_length]
        have hlt : st.length - 1 < st.length := by omega
        have e : st.length = (st.length - 1) + 1 := by omega
        have hb := bnd_succ (c := c) (List.getElem?_eq_getElem hlt)
        rw [← e] at hb
        rw [hb]
        exact (h.2 _ (List.getElem_mem hlt)).1
    subst hm0
    refine ⟨sa_sta h b2 (by omega) t1, (brd_sa_eq h.pos b2).mpr ⟨t2, ?_⟩⟩
    rw [Nat.sub_zero, List.drop_length]
    show 0 + 1 = bin (k - st.length) (k - st.length)
    rw [bin_self]
  · have hf : few k st = 1 := if_neg hk
    rw [hf] at b1 b4
    refine ⟨sa_sta h b2 (by omega) t1, (brd_sa_eq h.pos b2).mpr ⟨t2, ?_⟩⟩
    have hne : st ≠ [] := by intro e; subst e; simp at b2; omega
    have hy : st.getLast? = some (st.getLast hne) := List.getLast?_eq_some_getLast hne
    have hc := chain b2 b4 b1 _ hy
    have hS : Sta (k - (st.length - m)) (mx (st.drop (st.length - m))) (st.drop (st.length - m)) :=
      ⟨by rw [List.length_drop]; omega, fun x hx => ⟨(h.2 x (List.mem_of_mem_drop hx)).1, mx_mem hx⟩⟩
    refine (exh_iff hS).mpr (.inr ⟨by rw [List.length_drop]; omega, fun y hy2 => ?_⟩)
    rw [hc]
    rw [List.getLast?_drop, if_neg (by omega), hy] at hy2
    exact (Option.some.inj hy2).symm
theorem BmN.zero {k c : Nat} {st : List Nat} (h : Sta k c st) (b : BmN k c st) : brd k st + 1 = bin (k + c) k := by
  have hl := h.1
  refine (exh_iff h).mpr ?_
  by_cases hk : st.length < k
  · have hf : few k st = 0 := if_pos hk
    have h0 := b 0 (by omega) (by omega)
    unfold tst at h0
    rw [Nat.sub_zero, List.drop_length] at h0
    by_cases hn : st.length = 0
    · rw [hn, bnd_zero] at h0
      simp only [mx] at h0
      exact .inl (by omega)
    · exfalso
      have hlt : st.length - 1 < st.length := by omega
      have e : st.length = (st.length - 1) + 1 := by omega
      have hb := bnd_succ (c := c) (List.getElem?_eq_getElem hlt)
      rw [← e] at hb
      rw [hb] at h0
      have := (h.2 _ (List.getElem_mem hlt)).1
      simp only [mx] at h0
      omega
  · have hf : few k st = 1 := if_neg hk
    refine .inr ⟨by omega, fun y hy => ?_⟩
    have hne : st ≠ [] := by intro e; subst e; simp at hy
    have h1 : 1 ≤ st.length := by have := List.length_pos_iff.mpr hne; omega
    have hc := chain (c := c) (Nat.le_refl _) (fun m' a b' => b m' (by omega) (by omega)) h1 y hy
    have hlast := b st.length (by omega) (Nat.le_refl _)
    unfold tst at hlast
    rw [Nat.sub_self, bnd_zero] at hlast
    rw [Nat.sub_self] at hc
    have := (h.2 y (last_mem hy)).2
    omega
/-- only one merge costs just one -/
theorem good_uniq {k c : Nat} {st : List Nat} {m n : Nat} (h : Sta k c st) (hm : m ≤ st.length) (hn : n ≤ st.length) (s1 : Sta k c (sa st m)) (s2 : Sta k c (sa st n)) (e1 : brd k (sa st m) = brd k st + 1) (e2 : brd k (sa st n) = brd k st + 1) : m = n := by
  have hl := h.1
  have look : ∀ m, m ≤ st.length → Sta k c (sa st m) → brd k (sa st m) = brd k st + 1 → (m = 0 ∧ st.length < k) ∨ (1 ≤ m ∧ st.length = k ∧ (∀ y, st.getLast? = some y → y = mx (st.drop (st.length - m))) ∧ (st.length - m = 0 ∨ ∃ y, st[st.length - m - 1]? = some y ∧ mx (st.drop (st.length - m)) < y)) := fun m hm s e => by
    obtain ⟨t1, t2⟩ := (brd_sa_eq h.pos hm).mp e
    have hs := s.1
    rw [sa_len hm] at hs
    by_cases h0 : m = 0
    · exact .inl ⟨h0, by omega⟩
    · refine .inr ⟨by omega, ?_⟩
      have hS : Sta (k - (st.length - m)) (mx (st.drop (st.length - m))) (st.drop (st.length - m)) :=
        ⟨by rw [List.length_drop]; omega, fun x hx => ⟨(h.2 x (List.mem_of_mem_drop hx)).1, mx_mem hx⟩⟩
      rcases (exh_iff hS).mp t2 with c | ⟨c1, c2⟩
      · exfalso
        have hlt : st.length - m < st.length := by omega
        have hmem : st[st.length - m] ∈ st.drop (st.length - m) := by
          rw [List.drop_eq_getElem_cons hlt]; exact List.mem_cons_self ..
        have := mx_mem hmem
        have := (h.2 _ (List.getElem_mem hlt)).1
        omega
      · rw [List.length_drop] at c1
        refine ⟨by omega, fun y hy => c2 y ?_, t1⟩
        rw [List.getLast?_drop, if_neg (by omega)]; exact hy
  have order : ∀ m n, m ≤ st.length → n ≤ st.length → m < n → Sta k c (sa st m) → Sta k c (sa st n) → brd k (sa st m) = brd k st + 1 → brd k (sa st n) = brd k st + 1 → False := fun m n hm hn hlt s1 s2 e1 e2 => by
    rcases look m hm s1 e1 with ⟨a1, a2⟩ | ⟨a1, a2, a3, a4⟩
    · rcases look n hn s2 e2 with ⟨b1, b2⟩ | ⟨b1, b2, b3, b4⟩ <;> omega
    · rcases look n hn s2 e2 with ⟨b1, b2⟩ | ⟨b1, b2, b3, b4⟩
      · omega
      · have hne : st ≠ [] := by intro e; subst e; simp at hn; omega
        have hy : st.getLast? = some (st.getLast hne) := List.getLast?_eq_some_getLast hne
        have q1 := a3 _ hy
        have q2 := b3 _ hy
        rcases a4 with a4 | ⟨y, y1, y2⟩
        · omega
        · have hmem : y ∈ st.drop (st.length - n) := by
            refine List.mem_of_getElem? (i := (st.length - m - 1) - (st.length - n)) ?_
            rw [List.getElem?_drop, show st.length - n + (st.length - m - 1 - (st.length - n)) = st.length - m - 1 by omega]
            exact y1
          have := mx_mem hmem
          omega
  rcases Nat.lt_trichotomy m n with c | c | c
  · exact (order m n hm hn c s1 s2 e1 e2).elim
  · exact c
  · exact (order n m hn hm c s2 s1 e2 e1).elim
end MB

set_option maxHeartbeats 4000000
namespace MB
/-- no newer run is above an older one -/
def Desc (st : List Nat) : Prop := st.Pairwise fun x y => y ≤ x
theorem Desc.mx {x : Nat} {xs : List Nat} (h : Desc (x :: xs)) : mx (x :: xs) = x := by
  have h1 := (List.pairwise_cons.mp h).1
  have := MB.mx_le (c := x) h1
  rw [mx_cons]; omega
theorem Desc.tail {x : Nat} {xs : List Nat} (h : Desc (x :: xs)) : Desc xs := (List.pairwise_cons.mp h).2
/-- the lengths of the runs -/
def lens : Nat → List Nat → List Nat
  | _, [] => []
  | k, x :: xs => bin (k + x - 1) k :: lens (k - 1) xs
theorem lens_len : ∀ (k : Nat) (st : List Nat), (lens k st).length = st.length
  | _, [] => rfl
  | k, x :: xs => by simp [lens, lens_len (k - 1) xs]
theorem lw_desc {k x : Nat} {xs : List Nat} (h : Pos k (x :: xs)) (d : Desc (x :: xs)) : lw k (brd k (x :: xs)) = x := by
  obtain ⟨h1, hk, hx⟩ := h.tail
  have hb := brd_le h.sta
  have e : brd k (x :: xs) = bin (k + mx (x :: xs) - 1) k + brd (k - 1) xs := rfl
  rw [d.mx] at hb e
  refine (lw_ok _ hk).uniq (Lw.mk' (by omega) (.inr ?_))
  rw [show k + (x - 1) = k + x - 1 by omega]
  omega
theorem rl_desc : ∀ {k : Nat} {st : List Nat}, Pos k st → Desc st → rl k (brd k st) = lens k st
  | k, [], _, _ => by simp [brd, lens, rl_zero]
  | k, x :: xs, h, d => by
    have hl := lw_desc h d
    obtain ⟨h1, hk, hx⟩ := h.tail
    have ih := rl_desc h1 d.tail
    have e : brd k (x :: xs) = bin (k + x - 1) k + brd (k - 1) xs := by
      show bin (k + mx (x :: xs) - 1) k + brd (k - 1) xs = _
      rw [d.mx]
    obtain ⟨j, rfl⟩ : ∃ j, k = j + 1 := ⟨k - 1, by omega⟩
    have hp := bin_pos (n := j + 1 + x - 1) (k := j + 1) (by omega)
    have hne : brd (j + 1) (x :: xs) ≠ 0 := by omega
    rw [rl_succ hne, hl]
    have e2 : j + x = j + 1 + x - 1 := by omega
    rw [e2, e]
    show _ :: _ = bin (j + 1 + x - 1) (j + 1) :: lens (j + 1 - 1) xs
    rw [show bin (j + 1 + x - 1) (j + 1) + brd (j + 1 - 1) xs - bin (j + 1 + x - 1) (j + 1) = brd (j + 1 - 1) xs by omega, show j + 1 - 1 = j by omega]
    rw [show j + 1 - 1 = j by omega] at ih
    rw [ih]
theorem rl_desc_len {k : Nat} {st : List Nat} (h : Pos k st) (d : Desc st) : (rl k (brd k st)).length = st.length := by rw [rl_desc h d, lens_len]
theorem sa_desc {st : List Nat} {m : Nat} (d : Desc st) (hm : m ≤ st.length) (t : st.length - m = 0 ∨ ∃ y, st[st.length - m - 1]? = some y ∧ mx (st.drop (st.length - m)) < y) : Desc (sa st m) := by
  unfold sa Desc
  refine List.pairwise_append.mpr ⟨d.sublist (List.take_sublist _ _), List.pairwise_singleton _ _, fun x hx v hv => ?_⟩
  have hv' : v = 1 + mx (st.drop (st.length - m)) := by simpa using hv
  subst hv'
  rcases t with t | ⟨y, y1, y2⟩
  · rw [t] at hx; simp at hx
  · obtain ⟨i, hi⟩ := List.getElem?_of_mem hx
    rw [List.getElem?_take] at hi
    by_cases c : i < st.length - m
    · rw [if_pos c] at hi
      have hyx : y ≤ x := by
        by_cases e : i = st.length - m - 1
        · subst e; rw [y1] at hi; have := Option.some.inj hi; omega
        · obtain ⟨q1, r1⟩ := List.getElem?_eq_some_iff.mp hi
          obtain ⟨q2, r2⟩ := List.getElem?_eq_some_iff.mp y1
          have := List.pairwise_iff_getElem.mp d i (st.length - m - 1) q1 q2 (by omega)
          omega
      omega
    · rw [if_neg c] at hi; cases hi
theorem Bm.tight {k c : Nat} {st : List Nat} {m : Nat} (h : Sta k c st) (b : Bm k c st m) : st.length - m = 0 ∨ ∃ y, st[st.length - m - 1]? = some y ∧ mx (st.drop (st.length - m)) < y := (tst_ok h b.2.1 b.2.2.1).2
/-- the policy's merges and states -/
def pm (k n : Nat) : Nat := (rl k n).length + 1 - (rl k (n + 1)).length
def pst (k : Nat) : Nat → List Nat
  | 0 => []
  | n + 1 => sa (pst k n) (pm k n)
theorem bm_ex {k c : Nat} {st : List Nat} (h : Sta k c st) (hlt : brd k st + 1 < bin (k + c) k) : ∃ m, Bm k c st m := by
  by_cases e : ∃ m, few k st ≤ m ∧ m ≤ st.length ∧ tst c st m
  · obtain ⟨m, hm⟩ := e
    induction m using Nat.strongRecOn with
    | ind m ih =>
      by_cases c' : ∃ m', m' < m ∧ few k st ≤ m' ∧ m' ≤ st.length ∧ tst c st m'
      · obtain ⟨m', h1, h2⟩ := c'
        exact ih m' h1 h2
      · exact ⟨m, hm.1, hm.2.1, hm.2.2, fun m' a b t => c' ⟨m', b, a, by have := hm.2.1; omega, t⟩⟩
  · exfalso
    have := BmN.zero h fun m a b t => e ⟨m, a, b, t⟩
    omega
/-- the best merge from a descending state is the policy's -/
theorem bm_pm {k c : Nat} {st : List Nat} {m : Nat} (h : Sta k c st) (d : Desc st) (b : Bm k c st m) : m = pm k (brd k st) ∧ Sta k c (sa st m) ∧ Desc (sa st m) ∧ brd k (sa st m) = brd k st + 1 := by
  obtain ⟨g1, g2⟩ := b.good h
  have d2 := sa_desc d b.2.1 (b.tight h)
  refine ⟨?_, g1, d2, g2⟩
  unfold pm
  rw [rl_desc_len h.pos d, ← g2, rl_desc_len g1.pos d2, sa_len b.2.1]
  have := b.2.1
  omega
theorem sta_of {k c : Nat} {st : List Nat} (h : Pos k st) (d : Desc st) (hc : brd k st < bin (k + c) k) : Sta k c st := by
  refine ⟨h.1, fun x hx => ⟨h.2 x hx, ?_⟩⟩
  cases st with
  | nil => cases hx
  | cons y ys =>
    have h1 := lw_desc h d
    have h2 := mx_mem hx
    rw [d.mx] at h2
    obtain ⟨_, hk, _⟩ := h.tail
    have h3 := (lw_ok (brd k (y :: ys)) hk).2
    rw [h1] at h3
    by_cases e : y ≤ c
    · omega
    · have := h3 c (by omega); omega
theorem pst_ok {k : Nat} (hk : 1 ≤ k) : ∀ n, Pos k (pst k n) ∧ Desc (pst k n) ∧ brd k (pst k n) = n
  | 0 => ⟨⟨by simp [pst], by simp [pst]⟩, List.Pairwise.nil, rfl⟩
  | n + 1 => by
    obtain ⟨h1, h2, h3⟩ := pst_ok hk n
    have hb := bin_big (k := k) (c := n + 2) hk
    have hs := sta_of (c := n + 2) h1 h2 (by omega)
    obtain ⟨m, b⟩ := bm_ex hs (by omega)
    obtain ⟨e, g1, g2, g3⟩ := bm_pm hs h2 b
    rw [h3] at e g3
    subst e
    exact ⟨g1.pos, g2, g3⟩
theorem pm_le {k : Nat} (hk : 1 ≤ k) (n : Nat) : pm k n ≤ (pst k n).length := by
  obtain ⟨h1, h2, h3⟩ := pst_ok hk n
  have hb := bin_big (k := k) (c := n + 2) hk
  have hs := sta_of (c := n + 2) h1 h2 (by omega)
  obtain ⟨m, b⟩ := bm_ex hs (by omega)
  obtain ⟨e, _⟩ := bm_pm hs h2 b
  rw [h3] at e
  subst e
  exact b.2.1
theorem pst_len {k : Nat} (hk : 1 ≤ k) (n : Nat) : (pst k n).length = (rl k n).length := by
  obtain ⟨h1, h2, h3⟩ := pst_ok hk n
  have := rl_desc_len h1 h2
  rw [h3] at this
  exact this.symm
theorem pm_int {k : Nat} (hk : 1 ≤ k) (n : Nat) : ((rl k n).length : Int) + 1 - ((rl k (n + 1)).length : Int) = (pm k n : Int) := by
  have h1 := pst_len hk n
  have h2 := pst_len hk (n + 1)
  have h3 := pm_le hk n
  have h4 : (pst k (n + 1)).length = (pst k n).length - pm k n + 1 := sa_len h3
  unfold pm at *
  omega
end MB

set_option maxHeartbeats 4000000
namespace MB
open PySem PySem.Spec PyProof.Rows L2
theorem alike_ints (ns : List Int) : PySem.W.AlikeAll (ns.map PyData.int) := by
  refine ⟨fun x hx y hy => ?_, fun x hx e => ?_⟩
  · obtain ⟨i, _, rfl⟩ := List.mem_map.mp hx
    obtain ⟨j, _, rfl⟩ := List.mem_map.mp hy
    simp [PySem.W.alike]
  · obtain ⟨i, _, rfl⟩ := List.mem_map.mp hx
    cases e
theorem depth_ints : ∀ ns : List Int, PyData.depthAll (ns.map PyData.int) = 0
  | [] => by simp [PyData.depthAll]
  | n :: ns => by simp [PyData.depthAll, PyData.depth, depth_ints ns]
/-! ### max of a tuple of ints; with default= -/
def rMaxT (K : PySem.W.Frag) : List V → Hp → VK → Prop := fun xs H Q => ∃ (a : Addr) (n : Int) (ns : List Int), xs = [V.ref a] ∧ SqT K H a ((n :: ns).map V.int) ∧ Q (.int (ns.foldl max n)) H
theorem cr_maxT {X : Cx} {K : PySem.W.Frag} (hK : X.K = K) (hc : X.calm = true) (hu : X.A.units + 64 < cLine) : CallR X (.builtin "max") (rMaxT K) := by
  subst hK
  intro pins s σ H vs us Q I r h
  obtain ⟨a, n, ns, rfl, hs, q⟩ := h
  obtain ⟨its, rv, hl, _⟩ := I.tuple hs
  rw [Vals.ref1 r]
  obtain ⟨as, rd⟩ := Dp.readsAll I ((n :: ns).map PyData.int) _ its (dp_ints (n :: ns)) rv
  refine PySem.W.max_tuple_data (x := .int n) (xs := ns.map PyData.int) (I.ok.hd hc) hl (by simpa using rd) (alike_ints (n :: ns)) ?_ fun i v h' tk bs _ hr hk => ?_
  · have := depth_ints (n :: ns)
    rw [List.map_cons] at this
    rw [this]; omega
  · rw [PySem.W.maxD_ints] at hr
    cases hr
    exact ⟨.int _, H, I.kept hk, ⟨_, rfl⟩, q⟩
def rMaxDef (K : PySem.W.Frag) : List V → List V → Hp → VK → Prop := fun xs zs H Q => ∃ (a : Addr) (z : Int) (ns : List Int), xs = [V.ref a] ∧ zs = [V.int z] ∧ SqT K H a (ns.map V.int) ∧ (ns = [] → Q (.int z) H) ∧ ∀ m r, ns = m :: r → Q (.int (r.foldl max m)) H
theorem cr_maxDef {X : Cx} {K : PySem.W.Frag} (hK : X.K = K) (hc : X.calm = true) (hu : X.A.units + 64 < cLine) : CallRK X (.builtin "max") [Str.ofString "default"] (rMaxDef K) := by
  subst hK
  intro pins s σ H vs zs us ws Q I r rz h
  obtain ⟨a, z, ns, rfl, rfl, hs, q0, q1⟩ := h
  obtain ⟨its, rv, hl, _⟩ := I.tuple hs
  rw [Vals.ref1 r]
  obtain ⟨u, rfl, tz, rfl⟩ := vals1 rz
  obtain ⟨as, rd⟩ := Dp.readsAll I (ns.map PyData.int) _ its (dp_ints ns) rv
  refine PySem.W.max_tuple_default (xs := ns.map PyData.int) (I.ok.hd hc) hl (by simpa using rd) (alike_ints ns) ?_ (fun e h' tk hk => ?_) fun y ys i v h' tk bs e _ hr hk => ?_
  · rw [depth_ints ns]; omega
  · exact ⟨.int z, H, I.kept hk, ⟨_, rfl⟩, q0 (List.map_eq_nil_iff.mp e)⟩
  · cases ns with
    | nil => cases e
    | cons m t =>
      rw [List.map_cons] at e
      cases e
      rw [PySem.W.maxD_ints] at hr
      cases hr
      exact ⟨.int _, H, I.kept hk, ⟨_, rfl⟩, q1 m t rfl⟩
/-! ### sorted of a tuple of ints -/
section
variable {prog : Program} {w : World} {A : Around} {E : Value → Shared → Prop} {s : Shared}
theorem gather_tuple {p : Addr} {xs : List Value} {R : List Value → Shared → Prop} (ht : s.heap.IsTuple p xs.toArray) (hz : xs.length ≤ sizeLine)
    (q : R xs { s with heap := (s.heap.push (seqObj "list" #[] 0)).update s.heap.objs.size (Obj.mapSeq (· ++ xs.toArray)) }) : wpAny (model prog w) A (collect (.ref p)) R E s := by
  obtain ⟨ob, hob, hcl, ep, hdt⟩ := id ht
  unfold collect
  refine wpAny_bind (wpAny_runValue (codeAny_builtin entry_proto_collect' (show wpAny _ _ (do again (.builtin "list.__iadd__" ⟨[← newList [], .ref p], []⟩)) _ _ s from ?_)))
  refine wpAny_bind (wpAny_newList (wpAny_pure ⟨Code.quiet_builtin _ (by decide +kernel), codeAny_builtin entry_list_iadd' (show wpAny _ _ (Builtin.List.listExtendWith (.ref s.heap.objs.size) (.ref p) (.ref s.heap.objs.size)) _ _ { s with heap := s.heap.push (seqObj "list" #[] 0) } from ?_)⟩))
  unfold Builtin.List.listExtendWith
  have hob' : (s.heap.push (seqObj "list" #[] 0)).get? p = some ob := Heap.get?_push_of_some _ hob
  refine wpAny_bind (wpAny_typeOf (T := "tuple") ⟨ob, hob', hcl⟩ ?_)
  have tt : (Value.type "tuple" == Value.type "tuple") = true := by rfl
  rw [if_pos (by rw [tt]; simp)]
  refine wpAny_bind (listItems_at hob' hdt (wpAny_bind (listItems_at (xs := #[]) (n := 0) (Heap.get?_push_size _ rfl) rfl ?_)))
  rw [if_neg (by simp)]
  refine wpAny_bind (listUpdate_at (xs := #[]) (n := 0) (Heap.get?_push_size _ rfl) rfl (wpAny_pure ?_) (Nat.zero_le _) (by show (#[] ++ xs.toArray).size ≤ sizeLine + 1; simp only [Array.size_append, List.size_toArray, List.length_nil]; omega))
  show wpAny (model prog w) A (load s.heap.objs.size >>= _) R E { s with heap := (s.heap.push (seqObj "list" #[] 0)).update s.heap.objs.size (Obj.mapSeq (· ++ xs.toArray)) }
  refine wpAny_bind (wpAny_load (get?_update_seq (Heap.get?_push_size _ rfl) _) (show wpAny _ _ (pure ((#[] : Array Value) ++ xs.toArray).toList) R E _ from ?_))
  have ex : ((#[] : Array Value) ++ xs.toArray).toList = xs := by simp
  rw [ex]
  exact wpAny_pure q
theorem sorted_tup {p : Addr} {xs : List Value} {ns : List Int} {Q : Value → Shared → Prop} (ht : s.heap.IsTuple p xs.toArray) (hz : xs.length ≤ sizeLine) (hi : IntsAre xs ns)
    (q : ∀ out : List Value, SrtO.Srtd SrtO.ltIv out → SrtO.Stb SrtO.ltIv out xs → Q (.ref (s.heap.objs.size + 1)) { s with heap := sortedAll s.heap xs out.toArray }) :
    wpAny (model prog w) A (call (.builtin "sorted") [.ref p]) Q E s := by
  refine Calls.call_function_entry kind_sorted plain_sorted entry_sorted (args_sorted1 _) ?_
  unfold Builtin.«sorted»
  refine wpAny_bind (m := checkCount "sorted" 1 1 _) (wpAny_pure (wpAny_bind (gather_tuple ht hz (wpAny_bind (wpAny_newList ?_ hz)))))
  have sz1 : ((s.heap.push (seqObj "list" #[] 0)).update s.heap.objs.size (Obj.mapSeq (· ++ xs.toArray))).objs.size = s.heap.objs.size + 1 := (Heap.size_update ..).trans (Heap.size_push ..)
  have hoL := Heap.get?_push_size ((s.heap.push (seqObj "list" #[] 0)).update s.heap.objs.size (Obj.mapSeq (· ++ xs.toArray))) (o := seqObj "list" xs.toArray 0) rfl
  rw [sz1] at hoL
  show wpAny _ _ _ _ _ { s with heap := ((s.heap.push (seqObj "list" #[] 0)).update s.heap.objs.size (Obj.mapSeq (· ++ xs.toArray))).push (seqObj "list" xs.toArray 0) }
  rw [sz1]
  exact wpAny_bind (wpAny_holding (wpAny_call_entry PyProof.Rows.slot_list_sort ⟨_, hoL, rfl⟩ PyProof.Rows.entry_list_sort (SrtO.list_sort_ord SrtO.swo_int hoL hz (fun h2 => SrtO.ints_sortable hi h2) fun out hs hb => ⟨_, rfl, wpAny_pure ⟨_, rfl, q out hs hb⟩⟩) (PyProof.Rows.args_list_sort _)))
end
def rSortT (K : PySem.W.Frag) : List V → Hp → VK → Prop := fun xs H Q => ∃ (a : Addr) (ns : List Int), xs = [V.ref a] ∧ SqT K H a (ns.map V.int) ∧ ∀ (ms : List Int) (p : Addr), ms.Perm ns → H p = none → Q (.ref p) (upd H p (.lst (ms.map V.int)))
theorem cr_sortTI {X : Cx} : CallR X (.builtin "sorted") (rSortT X.K) := by
  intro pins s σ H vs us Q I r h
  obtain ⟨a, ns, rfl, hs, q⟩ := h
  obtain ⟨its, rv, hl, hz⟩ := I.tuple hs
  rw [Vals.ref1 r]
  have hi := rv.ints
  refine sorted_tup hl (by rw [← rv.length]; exact hz) hi fun out h1 h2 => ?_
  obtain ⟨k1, k2, k3⟩ := SrtO.ints_out hi h1 h2
  obtain ⟨ep, he'⟩ := sortedAll_at s.heap its out.toArray
  have hlen : ((out.map SrtO.iv).map V.int).length ≤ sizeLine := by
    have := k2.length_eq
    simp only [List.length_map] at this hz ⊢
    omega
  exact ⟨.ref _, upd H (s.heap.objs.size + 1) (.lst ((out.map SrtO.iv).map V.int)), I.laid (t' := s.toks) (fun _ _ e => sortedAll_old e) (Nat.le_succ _) ⟨hlen, out, ep, vals_of_ints k1, he'⟩, rfl, q _ _ k2 (I.hok.fresh (Nat.le_succ _))⟩
end MB

set_option maxHeartbeats 4000000
namespace MB
open PySem PySem.Spec PyProof.Rows L2
/-! ### a tuple times a number from 1 on -/
theorem tuple_mul1 (l : Addr) (items : Array Value) (n : Nat) (dd : Option Addr) (sl : Array (Option Value)) (u : Tok) :
    Meets (Builtin.«tuple.__mul__» ⟨[.ref l, .int 1 u], []⟩) (fun _ R s => s.heap.get? l = some { cls := .type "tuple", dict := dd, data := .seq items n, slots := sl } ∧ R (.ok (.ret (Value.ref l))) s) :=
  .of_wp fun prog w A R s h => by
    obtain ⟨hp, g, d, tk, os⟩ := s
    obtain ⟨hl, h⟩ := h
    have f1 := AutoSeq1.idx_int
    have c1 : (items.isEmpty || ((1 : Int) == 1)) = true := by simp
    wp_walk using wpAny_loadPart' hl
    exact ⟨_, rfl, h⟩
def rRepQ (K : PySem.W.Frag) : R2 := fun x y H Q => ∃ l k xs, x = .ref l ∧ y = .int k ∧ SqT K H l xs ∧ xs ≠ [] ∧ 1 ≤ k ∧ k ≤ 1000 ∧ xs.length ≤ 1000 ∧ (k = 1 → Q (.ref l) H) ∧ ∀ p, H p = none → Q (.ref p) (upd H p (.tup (List.replicate k.toNat xs).flatten))
theorem op_repQ {X : Cx} : OpR X (binaryOp .Mult) (rRepQ X.K) := by
  intro pins s σ H x y v u Q I rx ry h
  obtain ⟨l, k, xs, rfl, rfl, hT, hne, g1, g2, hz, q1, q⟩ := h
  by_cases hk : k = 1
  · subst hk
    cases rx
    obtain ⟨t, rfl⟩ := ry
    obtain ⟨its, r, ⟨⟨cls, dd, data, sl⟩, ho, hc, n, hd⟩, hs⟩ := I.tuple hT
    simp only at hc hd
    subst hc hd
    refine wpAny_binaryOp_repeat_ref (T := "tuple") (U := "int") (by decide) ⟨_, ho, rfl⟩ (fun s' => typeIs_int s' 1 t) noFill_tuple_mul F.fills_int_mul F.slot_int_rmul repeat_tuple F.slot_int_index.lookup (call_meets F.slot_int_rmul (typeIs_int s 1 t) F.entry_int_rmul (F.args_int_rmul_2 _ _) (int_rmul_tuple 1 t l its.toArray n dd sl) ⟨ho, rfl, ⟨_, ho, rfl⟩, ?_⟩)
    exact call_meets F.slot_tuple_mul ⟨_, ho, rfl⟩ F.entry_tuple_mul (F.args_tuple_mul_2 _ _) (tuple_mul1 l its.toArray n dd sl t) ⟨ho, .ref l, H, I, rfl, q1 rfl⟩
  · exact op_repT pins s σ H _ _ v u Q I rx ry ⟨l, k, xs, rfl, rfl, hT, hne, by omega, g2, hz, q⟩
theorem rep_read {K : PySem.W.Frag} {H : Hp} {l : Addr} {k : Int} {xs : List V} {Q : VK} (h : SqT K H l xs) (hn : xs ≠ []) (h1 : 1 ≤ k) (h2 : k ≤ 1000) (hz : xs.length ≤ 1000) (q : ∀ p H', Same H H' → SqT K H' p (List.replicate k.toNat xs).flatten → Q (.ref p) H') : rRepQ K (.ref l) (.int k) H Q := by
  refine ⟨l, k, xs, rfl, rfl, h, hn, h1, h2, hz, fun e => q l H (Same.refl H) ?_, fun p np => q p _ (same_upd np) (.inl (.inl upd_same))⟩
  rw [e]
  simpa using h
end MB

set_option maxHeartbeats 4000000
namespace MB
open PySem PySem.Spec PyProof.Rows L2
/-! ### a tuple from its end: t[::-1] -/
theorem adj_rev (n : Nat) : Builtin.Slice.sliceAdjust none none (-1) (n : Int) = ((n : Int) - 1, -1) := rfl
theorem places_rev (n : Nat) : Builtin.Slice.slicePlaces ((n : Int) - 1) (-1) (-1) = n := by
  unfold Builtin.Slice.slicePlaces
  have h1 : ¬ ((-1 : Int) > 0) := by omega
  simp only [h1, if_false]
  have h2 : -(-1 : Int) = 1 := by decide
  rw [h2, Int.ediv_one]
  split <;> omega
theorem pick_rev (xs : Array Value) : ((List.range xs.size).filterMap fun (k : Nat) => xs[(((xs.size : Int) - 1) + (k : Int) * (-1)).toNat]?).toArray = xs.toList.reverse.toArray := by
  congr 1
  have key : ∀ k, k < xs.size → xs[(((xs.size : Int) - 1) + (k : Int) * (-1)).toNat]? = some (xs.toList.reverse.getD k .none) := fun k hk => by
    have e : (((xs.size : Int) - 1) + (k : Int) * (-1)).toNat = xs.size - 1 - k := by omega
    have hl : k < xs.toList.reverse.length := by simpa using hk
    rw [e, List.getD_eq_getElem?_getD, List.getElem?_eq_getElem hl, Option.getD_some, List.getElem_reverse]
    rw [Array.getElem?_eq_getElem (by omega)]
    simp
  have h2 : (List.range xs.size).filterMap (fun (k : Nat) => xs[(((xs.size : Int) - 1) + (k : Int) * (-1)).toNat]?) = (List.range xs.size).map fun k => xs.toList.reverse.getD k .none := by
    have aux : ∀ (l : List Nat), (∀ k, k ∈ l → k < xs.size) → l.filterMap (fun (k : Nat) => xs[(((xs.size : Int) - 1) + (k : Int) * (-1)).toNat]?) = l.map fun k => xs.toList.reverse.getD k .none := by
      intro l
      induction l with
      | nil => intro _; rfl
      | cons a l ih =>
        intro h
        rw [List.filterMap_cons, key a (h a (List.mem_cons_self ..)), ih fun k hk => h k (List.mem_cons_of_mem _ hk)]
        rfl
    exact aux _ fun k hk => List.mem_range.mp hk
  rw [h2]
  refine List.ext_getElem (by simp) fun k h3 h4 => ?_
  rw [List.getElem_map, List.getElem_range, List.getD_eq_getElem?_getD, List.getElem?_eq_getElem h4, Option.getD_some]
section
variable {prog : Program} {w : World} {A : Around} {E : Value → Shared → Prop} {s : Shared}
theorem applied_rev {sl : Addr} {vl vu vs : Value} {n : Nat} {Q : Int × Int × Nat → Shared → Prop} (hs : s.heap.IsSliceOf sl vl vu vs) (pl : IsPart vl none) (pu : IsPart vu none) (ps : IsPart vs (some (-1)))
    (h : Q ((n : Int) - 1, -1, n) s) : wpAny (model prog w) A (Builtin.Slice.sliceApplied (.ref sl) (pure (n : Int))) Q E s := by
  obtain ⟨os, hos, hcs, hds⟩ := id hs
  unfold Builtin.Slice.sliceApplied Builtin.Slice.sliceFields
  refine wpAny_bind (wpAny_bind (wpAny_field hos hds (x := vl) rfl (wpAny_bind (wpAny_field hos hds (x := vu) rfl (wpAny_bind (wpAny_field hos hds (x := vs) rfl (wpAny_pure ?_)))))))
  refine wpAny_bind (HT.slicePart_ ps ?_)
  show wpAny _ _ (if ((-1 : Int) == 0) = true then _ else _) _ _ s
  rw [if_neg (by decide)]
  refine wpAny_bind (HT.slicePart_ pl (wpAny_bind (HT.slicePart_ pu (wpAny_bind (wpAny_pure ?_)))))
  show wpAny _ _ (match Builtin.Slice.sliceAdjust none none (-1) (n : Int) with | (lo, hi) => pure (lo, (-1 : Int), Builtin.Slice.slicePlaces lo hi (-1))) _ _ s
  rw [adj_rev]
  show wpAny _ _ (pure ((n : Int) - 1, (-1 : Int), Builtin.Slice.slicePlaces ((n : Int) - 1) (-1) (-1))) _ _ s
  rw [places_rev]
  exact wpAny_pure h
theorem getItem_rev {t sl : Addr} {items : Array Value} {vl vu vs : Value} {Q : Value → Shared → Prop} (ht : IsTup s.heap t items) (hs : s.heap.IsSliceOf sl vl vu vs) (pl : IsPart vl none) (pu : IsPart vu none) (ps : IsPart vs (some (-1)))
    (h : Q (.ref s.heap.objs.size) { s with heap := s.heap.push { cls := .type "tuple", data := .seq items.toList.reverse.toArray } }) (hsz : items.size ≤ sizeLine) : wpAny (model prog w) A (getItem (.ref t) (.ref sl)) Q E s := by
  have hok : sizeOk (.seq items.toList.reverse.toArray) := by
    show items.toList.reverse.toArray.size ≤ sizeLine
    simpa using hsz
  obtain ⟨os, hos, hcs, hds⟩ := id hs
  have hTs : s.TypeIs (.ref sl) "slice" := ⟨os, hos, hcs⟩
  unfold getItem
  (try with_reducible refine wpAny_holding ?_)
  (first | refine wpAny_bind (wpAny_pure ?_) | skip)
  refine wpAny_bind (wpAny_sequenceKey ht.typeIs (by decide) (wpAny_bind (wpAny_callSpecial?_slot (name := Str.ofString "__getitem__") ht.typeIs PyProof.Rows.slot_tuple_getitem (wpAny_call_entry PyProof.Rows.slot_tuple_getitem ht.typeIs entry_tuple_getitem ?_ (args_tuple_getitem _ _)))))
  show wpAny _ _ (Builtin.Tuple.tupleItemsOf (.ref t) >>= _) _ _ s
  refine wpAny_bind (tupleItemsOf_ ht (wpAny_bind (wpAny_typeOf hTs ?_)))
  rw [if_pos (by decide)]
  refine wpAny_bind (applied_rev hs pl pu ps ?_)
  show wpAny _ _ (if (((items.size : Int) - 1) == 0 && (-1 : Int) == 1 && items.size == items.size) = true then _ else _) _ _ s
  rw [if_neg (by simp), pick_rev]
  exact wpAny_bind (m := Builtin.Tuple.tupleExact _) (wpAny_newObj_type (wpAny_pure ⟨_, rfl, wpAny_pure h⟩) hok)
end
def tRevT (K : PySem.W.Frag) (te : TE) : TE := fun σ H Q => te σ H fun x H1 => ∃ a xs, x = .ref a ∧ SqT K H1 a xs ∧ ∀ p, H1 p = none → Q (.ref p) (upd H1 p (.tup xs.reverse))
theorem pe_revT {X : Cx} {K : PySem.W.Frag} (hK : X.K = K) {e : Expr} {te : TE} {k : Nat} {p1 p2 p3 pos : PySem.Pos} (he : PE X e te) : PE X (.Subscript e (.Slice none none (some (.UnaryOp .USub (.Constant (.int 1) k p1) p2)) p3) pos) (tRevT K te) := by
  subst hK
  refine ⟨fun pins s σ H Q I h => ?_⟩
  refine Subscript_ (thn (he.run pins s σ H _ I h) fun v s1 ⟨x, H1, I1, r1, q1⟩ => ?_)
  obtain ⟨a, xs, rfl, hx, q⟩ := q1
  cases r1
  have hst : PO X (some (.UnaryOp .USub (.Constant (.int 1) k p1) p2)) (tPart (tUn (rU fun i => .int (-i)) (tC (.int 1)))) := po_some (pe_un un_neg pe_int)
  refine wpAny_Slice (thn (po_none.run pins s1 σ H1 (fun o H2 => o = none ∧ H2 = H1) I1 ⟨rfl, rfl⟩) fun vl s2 ⟨lo, H2, I2, pl, elo, eH⟩ => ?_)
  cases elo; cases eH
  refine thn (po_none.run pins s2 σ H1 (fun o H3 => o = none ∧ H3 = H1) I2 ⟨rfl, rfl⟩) fun vu s3 ⟨hi, H3, I3, pu, ehi, eH⟩ => ?_
  cases ehi; cases eH
  refine thn (hst.run pins s3 σ H1 (fun o H4 => o = some (-1) ∧ H4 = H1) I3 ⟨1, rfl, -1, rfl, rfl, rfl⟩) fun vs s4 ⟨st, H4, I4, ps, est, eH⟩ => ?_
  cases est; cases eH
  have I5 : Inv X pins σ H1 { s4 with heap := s4.heap.push { cls := .type "slice", data := .fields #[vl, vu, vs] } } := I4.kept (t' := s4.toks) fun b ob e => Heap.get?_push_of_some _ e
  obtain ⟨its, r, ht, hz⟩ := I5.tuple hx
  have hlen := r.length
  show wpAny (model X.prog X.w) X.A (subscriptTail e (.Slice none none (some (.UnaryOp .USub (.Constant (.int 1) k p1) p2)) p3) (.ref a) (.ref s4.heap.objs.size)) (EP X pins σ Q) X.xe { s4 with heap := s4.heap.push { cls := .type "slice", data := .fields #[vl, vu, vs] } }
  refine tail_any (ops := [.ref a, .ref s4.heap.objs.size]) ht.typeIs (PyProof.Rows.slot_tuple_getitem.lookup) ?_ (by with_unfolding_all rfl)
  refine getItem_rev ht (Heap.IsSliceOf.new _ vl vu vs) pl pu ps ?_ (by rw [List.size_toArray]; omega)
  refine ⟨.ref _, _, I5.laid (t' := s4.toks) (o := .tup xs.reverse) (fun b ob e => Heap.get?_push_of_some _ e) (Nat.le_refl _) ?_, rfl, q _ (I5.hok.fresh (Nat.le_refl _))⟩
  exact ⟨by rw [List.length_reverse]; exact hz, its.reverse, r.reverse, IsTup.new _ _⟩
end MB

set_option maxHeartbeats 4000000
namespace MB
open PySem PySem.Spec PyProof.Rows L2
/-! ### a body whose first statement never ends in order -/
theorem pss_stop {X : Cx} {st : Stmt} {rest : List Stmt} {t : TS} (h1 : PS X st t) : PSs X (st :: rest) (fun D σ H => t { D with nx := fun _ _ => False } σ H) := by
  refine ⟨fun pins s σ H D I h => ?_⟩
  refine wpAny_execs_cons (thn (h1.run pins s σ H { D with nx := fun _ _ => False } I h) fun f s1 q => ?_)
  cases f with
  | next =>
    obtain ⟨_, _, _, q⟩ := q
    exact q.elim
  | ret v => exact q
  | brk => exact q
  | cont => exact q
/-! ### texts of data are texts -/
theorem strOk_of (s : String) : PyData.strOk (Str.ofString s) = true := by
  rw [Str.ofString_eq_toList]
  unfold PyData.strOk
  rw [← Array.all_toList, List.all_eq_true]
  intro c hc
  obtain ⟨z, _, rfl⟩ := List.mem_map.mp hc
  refine decide_eq_true ?_
  have h := z.valid
  have e : z.toNat = z.val.toNat := rfl
  rcases h with h | h
  · exact Nat.lt_trans (show z.toNat < 0xd800 from h) (by decide)
  · exact h.2
theorem strOk_app {a b : Str} (h1 : PyData.strOk a = true) (h2 : PyData.strOk b = true) : PyData.strOk (a ++ b) = true := by
  show (a.cps ++ b.cps).all _ = true
  rw [Array.all_append]
  rw [Bool.and_eq_true]
  exact ⟨h1, h2⟩
theorem strOk_join {sep : Str} (hs : PyData.strOk sep = true) : ∀ {ts : List Str}, (∀ t, t ∈ ts → PyData.strOk t = true) → PyData.strOk (Str.join sep ts) = true
  | [], _ => by show PyData.strOk Str.empty = true; decide +kernel
  | [x], h => h x (List.mem_cons_self ..)
  | x :: y :: r, h => by
    show PyData.strOk (x ++ sep ++ Str.join sep (y :: r)) = true
    exact strOk_app (strOk_app (h x (List.mem_cons_self ..)) hs) (strOk_join hs fun t ht => h t (List.mem_cons_of_mem _ ht))
theorem strOk_from : ∀ {ts : List Str} {k : Nat} {acc : Str}, PyData.strOk acc = true → (∀ t, t ∈ ts → PyData.strOk t = true) → PyData.strOk (textFrom k acc ts) = true
  | [], _, _, h, _ => h
  | t :: r, k, acc, h, ht => by
    refine strOk_from (ts := r) (k := k + 1) (acc := acc ++ (if k > 0 then ", " else "" : String) ++ t) (strOk_app (strOk_app h (strOk_of _)) (ht t (List.mem_cons_self ..))) fun x hx => ht x (List.mem_cons_of_mem _ hx)
theorem k_reprD {X : Cx} {K : PySem.W.Frag} (e : X.K = K) (hgd : X.A.guards = some []) (hu : X.A.units + 64 < cLine) : CallR X (.builtin "repr") (rReprD K) := by
  rw [← e]; exact call_reprD hgd hu
def SOk (d : PyData) : Prop := PyData.strOk d.shown = true
theorem shownAll_map : ∀ ds : List PyData, PyData.shownAll ds = ds.map PyData.shown
  | [] => rfl
  | d :: ds => by simp only [PyData.shownAll, List.map_cons, shownAll_map ds]
theorem SOk.int {i : Int} : SOk (.int i) := by unfold SOk; simp only [PyData.shown]; exact strOk_of _
theorem SOk.none : SOk .none := by unfold SOk; simp only [PyData.shown]; exact strOk_of _
theorem SOk.bool {b : Bool} : SOk (.bool b) := by unfold SOk; simp only [PyData.shown]; cases b <;> exact strOk_of _
theorem SOk.tup {ds : List PyData} (h : ∀ d, d ∈ ds → SOk d) : SOk (.tuple ds) := by
  unfold SOk
  simp only [PyData.shown]
  rw [shownAll_map]
  unfold tupleText
  refine strOk_app (strOk_app (strOk_of _) (strOk_join (strOk_of _) fun t ht => ?_)) (strOk_of _)
  obtain ⟨d, hd, rfl⟩ := List.mem_map.mp ht
  exact h d hd
theorem SOk.lst {ds : List PyData} (h : ∀ d, d ∈ ds → SOk d) : SOk (.list ds) := by
  unfold SOk
  simp only [PyData.shown]
  rw [shownAll_map]
  unfold listText
  refine strOk_app (strOk_from (strOk_of _) fun t ht => ?_) (strOk_of _)
  obtain ⟨d, hd, rfl⟩ := List.mem_map.mp ht
  exact h d hd
theorem SOk.ints {ns : List Int} : ∀ d, d ∈ ns.map PyData.int → SOk d := fun d hd => by
  obtain ⟨i, _, rfl⟩ := List.mem_map.mp hd
  exact .int
theorem SOk.dic1 {x : Str} {d : PyData} (hx : SOk (.str x)) (h : SOk d) : SOk (.dict [(.str x, d)]) := by
  unfold SOk at *
  simp only [PyData.shown, PyData.shownKv] at *
  unfold dictText
  exact strOk_app (strOk_app (strOk_of _) (strOk_join (strOk_of _) fun t ht => by
    rw [List.mem_singleton.mp ht]
    exact strOk_app (strOk_app hx (strOk_of _)) h)) (strOk_of _)
theorem Sh.str {x : Str} {k : Nat} (h : PyData.strOk x = true) : Sh k (.str x) := ⟨by simp only [PyData.canLay0]; exact h, by simp [PyData.depth]⟩
end MB

set_option maxHeartbeats 4000000
namespace MB
open PySem PySem.Spec PyProof.Rows L2
def topS (i : Nat) : Stmt := PySem.Challenge.pw_mergebudget_k18_states_after_schedules.main.body.getD i (.Pass ⟨0, 0, 0, 0⟩)
abbrev s_is_int : Stmt := topS 8
abbrev N_is_int : List Str := ["value"]
theorem sc_is_int : FnScope N_is_int ["value"] (defScope s_is_int) := ⟨rfl, rfl, rfl, by decide +kernel, rfl, by decide +kernel, by decide +kernel⟩
abbrev s_is_count : Stmt := topS 9
abbrev N_is_count : List Str := ["value"]
theorem sc_is_count : FnScope N_is_count ["value"] (defScope s_is_count) := ⟨rfl, rfl, rfl, by decide +kernel, rfl, by decide +kernel, by decide +kernel⟩
abbrev s_is_count_up_to : Stmt := topS 10
abbrev N_is_count_up_to : List Str := ["value", "most"]
theorem sc_is_count_up_to : FnScope N_is_count_up_to ["value", "most"] (defScope s_is_count_up_to) := ⟨rfl, rfl, rfl, by decide +kernel, rfl, by decide +kernel, by decide +kernel⟩
abbrev s_is_schedule : Stmt := topS 13
abbrev N_is_schedule : List Str := ["value", "runs", "merge"]
theorem sc_is_schedule : FnScope N_is_schedule ["value"] (defScope s_is_schedule) := ⟨rfl, rfl, rfl, by decide +kernel, rfl, by decide +kernel, by decide +kernel⟩
abbrev s_state_of : Stmt := topS 15
abbrev N_state_of : List Str := ["schedule", "state", "merge"]
theorem sc_state_of : FnScope N_state_of ["schedule"] (defScope s_state_of) := ⟨rfl, rfl, rfl, by decide +kernel, rfl, by decide +kernel, by decide +kernel⟩
abbrev s_state_after : Stmt := topS 16
abbrev N_state_after : List Str := ["state", "merge", "kept"]
theorem sc_state_after : FnScope N_state_after ["state", "merge"] (defScope s_state_after) := ⟨rfl, rfl, rfl, by decide +kernel, rfl, by decide +kernel, by decide +kernel⟩
abbrev s_L_s5_hand : Stmt := topS 18
abbrev N_L_s5_hand : List Str := ["_law_script", "_law_nth", "_law_cell", "_law_digits", "_law_mixed"]
theorem sc_L_s5_hand : FnScope N_L_s5_hand ["_law_script", "_law_nth"] (defScope s_L_s5_hand) := ⟨rfl, rfl, rfl, by decide +kernel, rfl, by decide +kernel, by decide +kernel⟩
abbrev s_L_s5_take : Stmt := topS 19
abbrev N_L_s5_take : List Str := ["_law_hand", "_law_size", "_law_digit", "_law_primes", "_law_prime", "_law_mixed", "_law_drawn"]
theorem sc_L_s5_take : FnScope N_L_s5_take ["_law_hand", "_law_size"] (defScope s_L_s5_take) := ⟨rfl, rfl, rfl, by decide +kernel, rfl, by decide +kernel, by decide +kernel⟩
abbrev s_L_s5_of : Stmt := topS 20
abbrev N_L_s5_of : List Str := ["_law_hand", "_law_options"]
theorem sc_L_s5_of : FnScope N_L_s5_of ["_law_hand", "_law_options"] (defScope s_L_s5_of) := ⟨rfl, rfl, rfl, by decide +kernel, rfl, by decide +kernel, by decide +kernel⟩
abbrev s_L_s5_schedules : Stmt := topS 21
abbrev N_L_s5_schedules : List Str := ["_law_total", "_law_found", "_law_flush", "_law_longer", "_law_plan", "_law_runs", "_law_taken"]
theorem sc_L_s5_schedules : FnScope N_L_s5_schedules ["_law_total"] (defScope s_L_s5_schedules) := ⟨rfl, rfl, rfl, by decide +kernel, rfl, by decide +kernel, by decide +kernel⟩
abbrev s_L_s5_schedule : Stmt := topS 22
abbrev N_L_s5_schedule : List Str := ["_law_hand", "_law_total", "_law_way", "_law_plan", "_law_runs", "_law_flush", "_law_options", "_law_taken"]
theorem sc_L_s5_schedule : FnScope N_L_s5_schedule ["_law_hand", "_law_total"] (defScope s_L_s5_schedule) := ⟨rfl, rfl, rfl, by decide +kernel, rfl, by decide +kernel, by decide +kernel⟩
abbrev s_L_s5_met : Stmt := topS 23
abbrev N_L_s5_met : List Str := ["_law_call", "_law_caught", "_law_result", "error", "_law_kinds"]
theorem sc_L_s5_met : FnScope N_L_s5_met ["_law_call"] (defScope s_L_s5_met) := ⟨rfl, rfl, rfl, by decide +kernel, rfl, by decide +kernel, by decide +kernel⟩
abbrev s_L_s5_state_of : Stmt := topS 24
abbrev N_L_s5_state_of : List Str := ["_law_plan", "_law_stack", "_law_counts", "_law_flush", "_law_taken", "_law_members", "_law_run", "_law_member"]
theorem sc_L_s5_state_of : FnScope N_L_s5_state_of ["_law_plan"] (defScope s_L_s5_state_of) := ⟨rfl, rfl, rfl, by decide +kernel, rfl, by decide +kernel, by decide +kernel⟩
abbrev s_L_s5_bad : Stmt := topS 25
abbrev N_L_s5_bad : List Str := ["_law_hand", "_law_plan", "_law_index", "_law_found"]
theorem sc_L_s5_bad : FnScope N_L_s5_bad ["_law_hand", "_law_plan"] (defScope s_L_s5_bad) := ⟨rfl, rfl, rfl, by decide +kernel, rfl, by decide +kernel, by decide +kernel⟩
abbrev s_law : Stmt := topS 26
abbrev N_law : List Str := ["_law_script", "_law_total", "_law_plan", "_law_nth", "_law_hand", "_law_turn", "_law_due", "_law_bad"]
theorem sc_law : FnScope N_law ["_law_script"] (defScope s_law) := ⟨rfl, rfl, rfl, by decide +kernel, rfl, by decide +kernel, by decide +kernel⟩
abbrev s_init_InvalidSchedule : Stmt := clsDef (topS 2)
abbrev N_init_InvalidSchedule : List Str := ["self", "value"]
theorem sc_init_InvalidSchedule : FnScope N_init_InvalidSchedule ["self", "value"] (defScope s_init_InvalidSchedule) := ⟨rfl, rfl, rfl, by decide +kernel, rfl, by decide +kernel, by decide +kernel⟩
abbrev s_init_InvalidCount : Stmt := clsDef (topS 3)
abbrev N_init_InvalidCount : List Str := ["self", "value"]
theorem sc_init_InvalidCount : FnScope N_init_InvalidCount ["self", "value"] (defScope s_init_InvalidCount) := ⟨rfl, rfl, rfl, by decide +kernel, rfl, by decide +kernel, by decide +kernel⟩
abbrev s_init_InvalidBudget : Stmt := clsDef (topS 4)
abbrev N_init_InvalidBudget : List Str := ["self", "value"]
theorem sc_init_InvalidBudget : FnScope N_init_InvalidBudget ["self", "value"] (defScope s_init_InvalidBudget) := ⟨rfl, rfl, rfl, by decide +kernel, rfl, by decide +kernel, by decide +kernel⟩
abbrev s_init_InvalidState : Stmt := clsDef (topS 5)
abbrev N_init_InvalidState : List Str := ["self", "value"]
theorem sc_init_InvalidState : FnScope N_init_InvalidState ["self", "value"] (defScope s_init_InvalidState) := ⟨rfl, rfl, rfl, by decide +kernel, rfl, by decide +kernel, by decide +kernel⟩
abbrev s_init_InvalidMerge : Stmt := clsDef (topS 6)
abbrev N_init_InvalidMerge : List Str := ["self", "value"]
theorem sc_init_InvalidMerge : FnScope N_init_InvalidMerge ["self", "value"] (defScope s_init_InvalidMerge) := ⟨rfl, rfl, rfl, by decide +kernel, rfl, by decide +kernel, by decide +kernel⟩
structure Tx (K : PySem.W.Frag) (mg : Str → Option Value) where
  a_is_int : Addr
  fd_is_int : FuncData
  f_is_int : Fun K "is_int" "is_int" s_is_int a_is_int fd_is_int
  g_is_int : mg "is_int" = some (.ref a_is_int)
  bd_is_int : Binds K fd_is_int ["value"] []
  a_is_count : Addr
  fd_is_count : FuncData
  f_is_count : Fun K "is_count" "is_count" s_is_count a_is_count fd_is_count
  g_is_count : mg "is_count" = some (.ref a_is_count)
  bd_is_count : Binds K fd_is_count ["value"] []
  a_is_count_up_to : Addr
  fd_is_count_up_to : FuncData
  f_is_count_up_to : Fun K "is_count_up_to" "is_count_up_to" s_is_count_up_to a_is_count_up_to fd_is_count_up_to
  g_is_count_up_to : mg "is_count_up_to" = some (.ref a_is_count_up_to)
  bd_is_count_up_to : Binds K fd_is_count_up_to ["value", "most"] []
  a_is_schedule : Addr
  fd_is_schedule : FuncData
  f_is_schedule : Fun K "is_schedule" "is_schedule" s_is_schedule a_is_schedule fd_is_schedule
  g_is_schedule : mg "is_schedule" = some (.ref a_is_schedule)
  bd_is_schedule : Binds K fd_is_schedule ["value"] []
  a_state_of : Addr
  fd_state_of : FuncData
  f_state_of : Fun K "state_of" "state_of" s_state_of a_state_of fd_state_of
  g_state_of : mg "state_of" = some (.ref a_state_of)
  bd_state_of : Binds K fd_state_of ["schedule"] []
  kb_state_of_schedule : KBinds K fd_state_of ["schedule"] ["schedule"] (gP [0]) (gP [0])
  a_state_after : Addr
  fd_state_after : FuncData
  f_state_after : Fun K "state_after" "state_after" s_state_after a_state_after fd_state_after
  g_state_after : mg "state_after" = some (.ref a_state_after)
  bd_state_after : Binds K fd_state_after ["state", "merge"] []
  a_L_s5_hand : Addr
  fd_L_s5_hand : FuncData
  f_L_s5_hand : Fun K "_law_s5_hand" "_law_s5_hand" s_L_s5_hand a_L_s5_hand fd_L_s5_hand
  g_L_s5_hand : mg "_law_s5_hand" = some (.ref a_L_s5_hand)
  bd_L_s5_hand : Binds K fd_L_s5_hand ["_law_script", "_law_nth"] []
  a_L_s5_take : Addr
  fd_L_s5_take : FuncData
  f_L_s5_take : Fun K "_law_s5_take" "_law_s5_take" s_L_s5_take a_L_s5_take fd_L_s5_take
  g_L_s5_take : mg "_law_s5_take" = some (.ref a_L_s5_take)
  bd_L_s5_take : Binds K fd_L_s5_take ["_law_hand", "_law_size"] []
  a_L_s5_of : Addr
  fd_L_s5_of : FuncData
  f_L_s5_of : Fun K "_law_s5_of" "_law_s5_of" s_L_s5_of a_L_s5_of fd_L_s5_of
  g_L_s5_of : mg "_law_s5_of" = some (.ref a_L_s5_of)
  bd_L_s5_of : Binds K fd_L_s5_of ["_law_hand", "_law_options"] []
  a_L_s5_schedules : Addr
  fd_L_s5_schedules : FuncData
  f_L_s5_schedules : Fun K "_law_s5_schedules" "_law_s5_schedules" s_L_s5_schedules a_L_s5_schedules fd_L_s5_schedules
  g_L_s5_schedules : mg "_law_s5_schedules" = some (.ref a_L_s5_schedules)
  bd_L_s5_schedules : Binds K fd_L_s5_schedules ["_law_total"] []
  a_L_s5_schedule : Addr
  fd_L_s5_schedule : FuncData
  f_L_s5_schedule : Fun K "_law_s5_schedule" "_law_s5_schedule" s_L_s5_schedule a_L_s5_schedule fd_L_s5_schedule
  g_L_s5_schedule : mg "_law_s5_schedule" = some (.ref a_L_s5_schedule)
  bd_L_s5_schedule : Binds K fd_L_s5_schedule ["_law_hand", "_law_total"] []
  a_L_s5_met : Addr
  fd_L_s5_met : FuncData
  f_L_s5_met : Fun K "_law_s5_met" "_law_s5_met" s_L_s5_met a_L_s5_met fd_L_s5_met
  g_L_s5_met : mg "_law_s5_met" = some (.ref a_L_s5_met)
  bd_L_s5_met : Binds K fd_L_s5_met ["_law_call"] []
  a_L_s5_state_of : Addr
  fd_L_s5_state_of : FuncData
  f_L_s5_state_of : Fun K "_law_s5_state_of" "_law_s5_state_of" s_L_s5_state_of a_L_s5_state_of fd_L_s5_state_of
  g_L_s5_state_of : mg "_law_s5_state_of" = some (.ref a_L_s5_state_of)
  bd_L_s5_state_of : Binds K fd_L_s5_state_of ["_law_plan"] []
  a_L_s5_bad : Addr
  fd_L_s5_bad : FuncData
  f_L_s5_bad : Fun K "_law_s5_bad" "_law_s5_bad" s_L_s5_bad a_L_s5_bad fd_L_s5_bad
  g_L_s5_bad : mg "_law_s5_bad" = some (.ref a_L_s5_bad)
  bd_L_s5_bad : Binds K fd_L_s5_bad ["_law_hand", "_law_plan"] []
  a_law : Addr
  fd_law : FuncData
  f_law : Fun K "law" "law" s_law a_law fd_law
  g_law : mg "law" = some (.ref a_law)
  bd_law : Binds K fd_law ["_law_script"] []
  b_isinstance : mg "isinstance" = none
  b_int : mg "int" = none
  b_bool : mg "bool" = none
  b_tuple : mg "tuple" = none
  b_len : mg "len" = none
  b_max : mg "max" = none
  b_abs : mg "abs" = none
  b_range : mg "range" = none
  b_min : mg "min" = none
  b_ValueError : mg "ValueError" = none
  b_enumerate : mg "enumerate" = none
  b_list : mg "list" = none
  b_repr : mg "repr" = none
  c_MergeBudgetError : Addr
  gc_MergeBudgetError : mg "MergeBudgetError" = some (.ref c_MergeBudgetError)
  kc_MergeBudgetError : PySem.W.keepIn K (.ref c_MergeBudgetError) = true
  xe_MergeBudgetError : ExcC K c_MergeBudgetError
  xf_MergeBudgetError : XfC K c_MergeBudgetError
  xi_MergeBudgetError : PySem.W.excIn K c_MergeBudgetError PySem.HandSPX.veTail "ValueError.__new__" = true
  c_InvalidSchedule : Addr
  gc_InvalidSchedule : mg "InvalidSchedule" = some (.ref c_InvalidSchedule)
  kc_InvalidSchedule : PySem.W.keepIn K (.ref c_InvalidSchedule) = true
  xe_InvalidSchedule : ExcC K c_InvalidSchedule
  xf_InvalidSchedule : XfC K c_InvalidSchedule
  ox_InvalidSchedule : OexC K c_InvalidSchedule
  no_InvalidSchedule : PySem.W.findIn K (.ref c_InvalidSchedule) "value" = some none
  fi_InvalidSchedule : Addr
  fdi_InvalidSchedule : FuncData
  ic_InvalidSchedule : PySem.W.findIn K (.ref c_InvalidSchedule) "__init__" = some (some (.ref fi_InvalidSchedule))
  ti_InvalidSchedule : PySem.W.typeIn K (.ref fi_InvalidSchedule) = some (.type "function")
  ui_InvalidSchedule : L2.Fun K "__init__" "InvalidSchedule.__init__" s_init_InvalidSchedule fi_InvalidSchedule fdi_InvalidSchedule
  bi_InvalidSchedule : Binds K fdi_InvalidSchedule ["self", "value"] []
  c_InvalidCount : Addr
  gc_InvalidCount : mg "InvalidCount" = some (.ref c_InvalidCount)
  kc_InvalidCount : PySem.W.keepIn K (.ref c_InvalidCount) = true
  xe_InvalidCount : ExcC K c_InvalidCount
  xf_InvalidCount : XfC K c_InvalidCount
  ox_InvalidCount : OexC K c_InvalidCount
  no_InvalidCount : PySem.W.findIn K (.ref c_InvalidCount) "value" = some none
  fi_InvalidCount : Addr
  fdi_InvalidCount : FuncData
  ic_InvalidCount : PySem.W.findIn K (.ref c_InvalidCount) "__init__" = some (some (.ref fi_InvalidCount))
  ti_InvalidCount : PySem.W.typeIn K (.ref fi_InvalidCount) = some (.type "function")
  ui_InvalidCount : L2.Fun K "__init__" "InvalidCount.__init__" s_init_InvalidCount fi_InvalidCount fdi_InvalidCount
  bi_InvalidCount : Binds K fdi_InvalidCount ["self", "value"] []
  c_InvalidBudget : Addr
  gc_InvalidBudget : mg "InvalidBudget" = some (.ref c_InvalidBudget)
  kc_InvalidBudget : PySem.W.keepIn K (.ref c_InvalidBudget) = true
  xe_InvalidBudget : ExcC K c_InvalidBudget
  xf_InvalidBudget : XfC K c_InvalidBudget
  ox_InvalidBudget : OexC K c_InvalidBudget
  no_InvalidBudget : PySem.W.findIn K (.ref c_InvalidBudget) "value" = some none
  fi_InvalidBudget : Addr
  fdi_InvalidBudget : FuncData
  ic_InvalidBudget : PySem.W.findIn K (.ref c_InvalidBudget) "__init__" = some (some (.ref fi_InvalidBudget))
  ti_InvalidBudget : PySem.W.typeIn K (.ref fi_InvalidBudget) = some (.type "function")
  ui_InvalidBudget : L2.Fun K "__init__" "InvalidBudget.__init__" s_init_InvalidBudget fi_InvalidBudget fdi_InvalidBudget
  bi_InvalidBudget : Binds K fdi_InvalidBudget ["self", "value"] []
  c_InvalidState : Addr
  gc_InvalidState : mg "InvalidState" = some (.ref c_InvalidState)
  kc_InvalidState : PySem.W.keepIn K (.ref c_InvalidState) = true
  xe_InvalidState : ExcC K c_InvalidState
  xf_InvalidState : XfC K c_InvalidState
  ox_InvalidState : OexC K c_InvalidState
  no_InvalidState : PySem.W.findIn K (.ref c_InvalidState) "value" = some none
  fi_InvalidState : Addr
  fdi_InvalidState : FuncData
  ic_InvalidState : PySem.W.findIn K (.ref c_InvalidState) "__init__" = some (some (.ref fi_InvalidState))
  ti_InvalidState : PySem.W.typeIn K (.ref fi_InvalidState) = some (.type "function")
  ui_InvalidState : L2.Fun K "__init__" "InvalidState.__init__" s_init_InvalidState fi_InvalidState fdi_InvalidState
  bi_InvalidState : Binds K fdi_InvalidState ["self", "value"] []
  c_InvalidMerge : Addr
  gc_InvalidMerge : mg "InvalidMerge" = some (.ref c_InvalidMerge)
  kc_InvalidMerge : PySem.W.keepIn K (.ref c_InvalidMerge) = true
  xe_InvalidMerge : ExcC K c_InvalidMerge
  xf_InvalidMerge : XfC K c_InvalidMerge
  ox_InvalidMerge : OexC K c_InvalidMerge
  no_InvalidMerge : PySem.W.findIn K (.ref c_InvalidMerge) "value" = some none
  fi_InvalidMerge : Addr
  fdi_InvalidMerge : FuncData
  ic_InvalidMerge : PySem.W.findIn K (.ref c_InvalidMerge) "__init__" = some (some (.ref fi_InvalidMerge))
  ti_InvalidMerge : PySem.W.typeIn K (.ref fi_InvalidMerge) = some (.type "function")
  ui_InvalidMerge : L2.Fun K "__init__" "InvalidMerge.__init__" s_init_InvalidMerge fi_InvalidMerge fdi_InvalidMerge
  bi_InvalidMerge : Binds K fdi_InvalidMerge ["self", "value"] []
  kits : kitB K [c_InvalidSchedule, c_InvalidCount, c_InvalidBudget, c_InvalidState, c_InvalidMerge] c_MergeBudgetError = true
  kitn : [c_InvalidSchedule, c_InvalidCount, c_InvalidBudget, c_InvalidState, c_InvalidMerge].Nodup
  kitz : c_MergeBudgetError ∉ [c_InvalidSchedule, c_InvalidCount, c_InvalidBudget, c_InvalidState, c_InvalidMerge]
  cdl : Addr
  ptl : Addr
  lawc : ∃ (oc : Value) (od : Option Addr) (kV doc pm : Value) (an : Option Addr) (ct : Value) (osl : Array (Option Value)), fd_law = PySem.W.fnOf "law" "law" (defArgs s_law) (defBody s_law) (defScope s_law) .none kV doc pm an (.ref cdl) ct ∧ K.lookup a_law = some ⟨oc, od, .func fd_law, osl⟩ ∧ PySem.W.codeIn K (.ref cdl) "law" = true
  t_MOST_FLUSHES : Tok
  c_MOST_FLUSHES : mg "MOST_FLUSHES" = some (.int (60) t_MOST_FLUSHES)
/-- no int, or a bool -/
def NotJ (K : PySem.W.Frag) (H : Hp) (x : V) : Prop := ∃ T b1 b2, TyX K H x (.type T) ∧ L2.kitB T "int" = some b1 ∧ L2.kitB T "bool" = some b2 ∧ (b1 && !b2) = false
theorem tyx_same {K : PySem.W.Frag} {H H' : Hp} (s : Same H H') {x : V} {t : Value} (h : TyX K H x t) : TyX K H' x t := by
  cases h with
  | base h =>
    cases h with
    | non => exact .base .non
    | bl x => exact .base (.bl x)
    | int i => exact .base (.int i)
    | str x => exact .base (.str x)
    | flt x => exact .base (.flt x)
    | lst e => exact .base (.lst (s _ _ e))
    | frz e => exact .base (.frz (s _ _ e))
    | tup e => exact .base (.tup (s _ _ e))
    | dK e => exact .base (.dK (s _ _ e))
    | dT e => exact .base (.dT (s _ _ e))
    | ins e c1 c2 c3 c4 c5 => exact .base (.ins (s _ _ e) c1 c2 c3 c4 c5)
  | byt b => exact .byt b
  | set e => exact .set (s _ _ e)
  | kList e c => exact .kList e c
  | kTuple e c => exact .kTuple e c
  | kDict e c => exact .kDict e c
  | fTuple e => exact .fTuple (s _ _ e)
  | fDict e => exact .fDict (s _ _ e)
section
variable {P : Program} {w : World} {K : PySem.W.Frag} {mg : Str → Option Value} {base : Heap}
def sp_is_intD (K : PySem.W.Frag) : Sp := fun vs H Q _ => ∃ x T b1 b2, vs = [x] ∧ TyX K H x (.type T) ∧ L2.kitB T "int" = some b1 ∧ L2.kitB T "bool" = some b2 ∧ Q (.bl (b1 && !b2)) H
theorem ok_is_intD (TX : Tx K mg) : FnOk P w K mg base CX0 1 TX.a_is_int TX.fd_is_int ["value"] (sp_is_intD K) := by
  refine TX.f_is_int.ok sc_is_int (fun vs H Q E h => ?_) (fun cdv A outer s H vs Q E hr h => ?_)
  · obtain ⟨x, T, b1, b2, rfl, _⟩ := h; rfl
  · obtain ⟨x, T, b1, b2, rfl, hT, h1, h2, q⟩ := h
    refine ⟨_, (pss_one (ps_ret (pe_and (pe_callB (id := "isinstance") (k_isi (K := K) rfl) (by rfl) TX.b_isinstance (by decide +kernel) (pa_cons (pv 0) (pa_cons (pe_bltn (v := .ty "int") (by rfl) TX.b_int (by decide +kernel) rfl) pa_nil))) (pe_one (pe_not (pe_callB (id := "isinstance") (k_isi (K := K) rfl) (by rfl) TX.b_isinstance (by decide +kernel) (pa_cons (pv 0) (pa_cons (pe_bltn (v := .ty "bool") (by rfl) TX.b_bool (by decide +kernel) rfl) pa_nil)))))))), ?_⟩
    refine ⟨x, rfl, x, .ty "int", .type T, .type "int", b1, rfl, .ty _, hT, kit_ty h1, b1, rfl, ?_⟩
    cases b1 with
    | false => exact iteF q
    | true => exact iteT ⟨x, rfl, x, .ty "bool", .type T, .type "bool", b2, rfl, .ty _, hT, kit_ty h2, b2, rfl, q⟩
def sp_is_count (K : PySem.W.Frag) : Sp := fun vs H Q _ => ∃ x, vs = [x] ∧ ((∃ i, x = .int i ∧ Q (.bl (decide (0 ≤ i))) H) ∨ (NotJ K H x ∧ Q (.bl false) H))
theorem ok_is_count (TX : Tx K mg) : FnOk P w K mg base CX0 2 TX.a_is_count TX.fd_is_count ["value"] (sp_is_count K) := by
  refine TX.f_is_count.ok sc_is_count (fun vs H Q E h => ?_) (fun cdv A outer s H vs Q E hr h => ?_)
  · obtain ⟨x, rfl, _⟩ := h; rfl
  · obtain ⟨x, rfl, hx⟩ := h
    refine ⟨_, (pss_one (ps_ret (pe_and (pe_call (ok_is_intD TX) (hr.mono (by decide)) (by rfl) TX.g_is_int TX.f_is_int.kp TX.bd_is_int .nil pass0 (pa_cons (pv 0) pa_nil)) (pe_one (pe_cmpR op_ge (pv 0) pe_int (nomark _)))))), ?_⟩
    rcases hx with ⟨i, rfl, q⟩ | ⟨⟨T, b1, b2, hT, h1, h2, hb⟩, q⟩
    · exact ⟨_, rfl, .int i, "int", true, false, rfl, .base (.int i), by decide +kernel, by decide +kernel, true, rfl, iteT ⟨_, rfl, _, _, rfl, rfl, q⟩⟩
    · refine ⟨_, rfl, x, T, b1, b2, rfl, hT, h1, h2, ?_⟩
      rw [hb]
      exact ⟨false, rfl, iteF q⟩
def sp_is_count_up_to (K : PySem.W.Frag) : Sp := fun vs H Q _ => ∃ x m, vs = [x, .int m] ∧ ((∃ i, x = .int i ∧ Q (.bl (decide (0 ≤ i) && decide (i ≤ m))) H) ∨ (NotJ K H x ∧ Q (.bl false) H))
theorem ok_is_count_up_to (TX : Tx K mg) : FnOk P w K mg base CX0 3 TX.a_is_count_up_to TX.fd_is_count_up_to ["value", "most"] (sp_is_count_up_to K) := by
  refine TX.f_is_count_up_to.ok sc_is_count_up_to (fun vs H Q E h => ?_) (fun cdv A outer s H vs Q E hr h => ?_)
  · obtain ⟨x, m, rfl, _⟩ := h; rfl
  · obtain ⟨x, m, rfl, hx⟩ := h
    refine ⟨_, (pss_one (ps_ret (pe_and (pe_call (ok_is_count TX) (hr.mono (by decide)) (by rfl) TX.g_is_count TX.f_is_count.kp TX.bd_is_count .nil pass0 (pa_cons (pv 0) pa_nil)) (pe_one (pe_cmpR op_le (pv 0) (pv 1) (nomark _)))))), ?_⟩
    rcases hx with ⟨i, rfl, q⟩ | ⟨hN, q⟩
    · refine ⟨_, rfl, _, rfl, .inl ⟨i, rfl, _, rfl, ?_⟩⟩
      by_cases h0 : 0 ≤ i
      · rw [decide_eq_true h0] at q ⊢
        exact iteT ⟨_, rfl, _, rfl, _, _, rfl, rfl, q⟩
      · rw [decide_eq_false h0] at q ⊢
        exact iteF q
    · exact ⟨_, rfl, _, rfl, .inr ⟨hN, _, rfl, iteF q⟩⟩
theorem ok_init_InvalidSchedule (TX : Tx K mg) : FnOk P w K mg base CX0 1 TX.fi_InvalidSchedule TX.fdi_InvalidSchedule ["self", "value"] (sp_init K TX.c_InvalidSchedule "value") := by
  refine TX.ui_InvalidSchedule.ok sc_init_InvalidSchedule (fun vs H Q E h => ?_) (fun cdv A outer s H vs Q E hr h => ?_)
  · obtain ⟨a, y, rfl, _⟩ := h; rfl
  · obtain ⟨a, y, rfl, ha, q⟩ := h
    exact ⟨_, (pss_one (ps_ost (pv 0) (pv 1))), y, rfl, .ref a, rfl, a, TX.c_InvalidSchedule, rfl, TX.ox_InvalidSchedule, TX.no_InvalidSchedule, .inl ⟨ha, fun dx n ne => q dx n ne⟩⟩
theorem ok_init_InvalidCount (TX : Tx K mg) : FnOk P w K mg base CX0 1 TX.fi_InvalidCount TX.fdi_InvalidCount ["self", "value"] (sp_init K TX.c_InvalidCount "value") := by
  refine TX.ui_InvalidCount.ok sc_init_InvalidCount (fun vs H Q E h => ?_) (fun cdv A outer s H vs Q E hr h => ?_)
  · obtain ⟨a, y, rfl, _⟩ := h; rfl
  · obtain ⟨a, y, rfl, ha, q⟩ := h
    exact ⟨_, (pss_one (ps_ost (pv 0) (pv 1))), y, rfl, .ref a, rfl, a, TX.c_InvalidCount, rfl, TX.ox_InvalidCount, TX.no_InvalidCount, .inl ⟨ha, fun dx n ne => q dx n ne⟩⟩
theorem ok_init_InvalidBudget (TX : Tx K mg) : FnOk P w K mg base CX0 1 TX.fi_InvalidBudget TX.fdi_InvalidBudget ["self", "value"] (sp_init K TX.c_InvalidBudget "value") := by
  refine TX.ui_InvalidBudget.ok sc_init_InvalidBudget (fun vs H Q E h => ?_) (fun cdv A outer s H vs Q E hr h => ?_)
  · obtain ⟨a, y, rfl, _⟩ := h; rfl
  · obtain ⟨a, y, rfl, ha, q⟩ := h
    exact ⟨_, (pss_one (ps_ost (pv 0) (pv 1))), y, rfl, .ref a, rfl, a, TX.c_InvalidBudget, rfl, TX.ox_InvalidBudget, TX.no_InvalidBudget, .inl ⟨ha, fun dx n ne => q dx n ne⟩⟩
theorem ok_init_InvalidState (TX : Tx K mg) : FnOk P w K mg base CX0 1 TX.fi_InvalidState TX.fdi_InvalidState ["self", "value"] (sp_init K TX.c_InvalidState "value") := by
  refine TX.ui_InvalidState.ok sc_init_InvalidState (fun vs H Q E h => ?_) (fun cdv A outer s H vs Q E hr h => ?_)
  · obtain ⟨a, y, rfl, _⟩ := h; rfl
  · obtain ⟨a, y, rfl, ha, q⟩ := h
    exact ⟨_, (pss_one (ps_ost (pv 0) (pv 1))), y, rfl, .ref a, rfl, a, TX.c_InvalidState, rfl, TX.ox_InvalidState, TX.no_InvalidState, .inl ⟨ha, fun dx n ne => q dx n ne⟩⟩
theorem ok_init_InvalidMerge (TX : Tx K mg) : FnOk P w K mg base CX0 1 TX.fi_InvalidMerge TX.fdi_InvalidMerge ["self", "value"] (sp_init K TX.c_InvalidMerge "value") := by
  refine TX.ui_InvalidMerge.ok sc_init_InvalidMerge (fun vs H Q E h => ?_) (fun cdv A outer s H vs Q E hr h => ?_)
  · obtain ⟨a, y, rfl, _⟩ := h; rfl
  · obtain ⟨a, y, rfl, ha, q⟩ := h
    exact ⟨_, (pss_one (ps_ost (pv 0) (pv 1))), y, rfl, .ref a, rfl, a, TX.c_InvalidMerge, rfl, TX.ox_InvalidMerge, TX.no_InvalidMerge, .inl ⟨ha, fun dx n ne => q dx n ne⟩⟩
/-- a budget, or none -/
def Bud (m : Int) (x : V) : Prop := ∃ i, x = .int i ∧ 0 ≤ i ∧ i ≤ m
def NoBud (K : PySem.W.Frag) (H : Hp) (m : Int) (x : V) : Prop := (∃ i, x = .int i ∧ (decide (0 ≤ i) && decide (i ≤ m)) = false) ∨ NotJ K H x
theorem bud_no {H : Hp} {m : Int} {x : V} (h : Bud m x) (n : NoBud K H m x) : False := by
  obtain ⟨i, rfl, h1, h2⟩ := h
  rcases n with ⟨j, e, hj⟩ | ⟨T, b1, b2, hT, k1, k2, hb⟩
  · cases e
    rw [decide_eq_true h1, decide_eq_true h2] at hj
    cases hj
  · have eT : T = "int" := by
      cases hT with
      | base h => cases h; rfl
    subst eT
    have e1 : L2.kitB "int" "int" = some true := by decide +kernel
    have e2 : L2.kitB "int" "bool" = some false := by decide +kernel
    rw [e1] at k1
    rw [e2] at k2
    cases k1
    cases k2
    cases hb
end
section
variable {P : Program} {w : World} {K : PySem.W.Frag} {mg : Str → Option Value} {base : Heap}
def sp_is_intN (K : PySem.W.Frag) : Sp := fun vs H Q _ => ∃ i : Int, vs = [.int i] ∧ Q (.bl true) H
theorem ok_is_intN (TX : Tx K mg) : FnOk P w K mg base CX0 1 TX.a_is_int TX.fd_is_int ["value"] (sp_is_intN K) := by
  refine TX.f_is_int.ok sc_is_int (fun vs H Q E h => ?_) (fun cdv A outer s H vs Q E hr h => ?_)
  · obtain ⟨i, rfl, _⟩ := h; rfl
  · obtain ⟨i, rfl, q⟩ := h
    refine ⟨_, (pss_one (ps_ret (pe_and (pe_callB (id := "isinstance") (k_isi (K := K) rfl) (by rfl) TX.b_isinstance (by decide +kernel) (pa_cons (pv 0) (pa_cons (pe_bltn (v := .ty "int") (by rfl) TX.b_int (by decide +kernel) rfl) pa_nil))) (pe_one (pe_not (pe_callB (id := "isinstance") (k_isi (K := K) rfl) (by rfl) TX.b_isinstance (by decide +kernel) (pa_cons (pv 0) (pa_cons (pe_bltn (v := .ty "bool") (by rfl) TX.b_bool (by decide +kernel) rfl) pa_nil)))))))), ?_⟩
    refine ⟨.int i, rfl, .int i, .ty "int", .type "int", .type "int", true, rfl, .ty _, .base (.int i), kit_ty (by decide +kernel), true, rfl, ?_⟩
    exact iteT ⟨.int i, rfl, .int i, .ty "bool", .type "int", .type "bool", false, rfl, .ty _, .base (.int i), kit_ty (by decide +kernel), false, rfl, q⟩
def sp_is_countN (K : PySem.W.Frag) : Sp := fun vs H Q _ => ∃ i : Int, vs = [.int i] ∧ Q (.bl (decide (0 ≤ i))) H
theorem ok_is_countN (TX : Tx K mg) : FnOk P w K mg base CX0 2 TX.a_is_count TX.fd_is_count ["value"] (sp_is_countN K) := by
  refine TX.f_is_count.ok sc_is_count (fun vs H Q E h => ?_) (fun cdv A outer s H vs Q E hr h => ?_)
  · obtain ⟨i, rfl, _⟩ := h; rfl
  · obtain ⟨i, rfl, q⟩ := h
    refine ⟨_, (pss_one (ps_ret (pe_and (pe_call (ok_is_intN TX) (hr.mono (by decide)) (by rfl) TX.g_is_int TX.f_is_int.kp TX.bd_is_int .nil pass0 (pa_cons (pv 0) pa_nil)) (pe_one (pe_cmpR op_ge (pv 0) pe_int (nomark _)))))), ?_⟩
    exact ⟨.int i, rfl, i, rfl, true, rfl, iteT ⟨.int i, rfl, i, 0, rfl, rfl, q⟩⟩
def sp_is_count_up_toN (K : PySem.W.Frag) : Sp := fun vs H Q _ => ∃ i m : Int, vs = [.int i, .int m] ∧ Q (.bl (decide (0 ≤ i) && decide (i ≤ m))) H
theorem ok_is_count_up_toN (TX : Tx K mg) : FnOk P w K mg base CX0 3 TX.a_is_count_up_to TX.fd_is_count_up_to ["value", "most"] (sp_is_count_up_toN K) := by
  refine TX.f_is_count_up_to.ok sc_is_count_up_to (fun vs H Q E h => ?_) (fun cdv A outer s H vs Q E hr h => ?_)
  · obtain ⟨i, m, rfl, _⟩ := h; rfl
  · obtain ⟨i, m, rfl, q⟩ := h
    refine ⟨_, (pss_one (ps_ret (pe_and (pe_call (ok_is_countN TX) (hr.mono (by decide)) (by rfl) TX.g_is_count TX.f_is_count.kp TX.bd_is_count .nil pass0 (pa_cons (pv 0) pa_nil)) (pe_one (pe_cmpR op_le (pv 0) (pv 1) (nomark _)))))), ?_⟩
    refine ⟨.int i, rfl, i, rfl, _, rfl, ?_⟩
    by_cases h0 : 0 ≤ i
    · rw [decide_eq_true h0] at q ⊢
      exact iteT ⟨.int i, rfl, .int m, rfl, i, m, rfl, rfl, q⟩
    · rw [decide_eq_false h0] at q ⊢
      exact iteF q
end
section
variable {P : Program} {w : World} {K : PySem.W.Frag} {mg : Str → Option Value} {base : Heap}
theorem min_nat (a b : Nat) : (if (b : Int) < (a : Int) then (b : Int) else (a : Int)) = ((min a b : Nat) : Int) := by
  by_cases h : b < a
  · rw [if_pos (by omega), Nat.min_eq_right (by omega)]
  · rw [if_neg (by omega), Nat.min_eq_left (by omega)]
theorem max_nat (a b : Nat) : (if (b : Int) > (a : Int) then (b : Int) else (a : Int)) = ((max a b : Nat) : Int) := by
  by_cases h : b > a
  · rw [if_pos (by omega), Nat.max_eq_right (by omega)]
  · rw [if_neg (by omega), Nat.max_eq_left (by omega)]
theorem bin_turn {n j : Nat} (h : j < n) : (bin n j : Int) * ((n : Int) - (j : Int)) / ((j : Int) + 1) = (bin n (j + 1) : Int) := by
  rw [← bin_div (n := n) (j := j) (by omega)]
  have e : ((n : Int) - (j : Int)) = ((n - j : Nat) : Int) := by omega
  rw [e]; norm_cast
end
/-- the draws' list: a number not below 0, a seed, a count of at most n -/
def Pot (H : Hp) (a : Addr) (n : Int) : Prop := ∃ d s m : Int, H a = some (.lst [.int d, .int s, .int m]) ∧ 0 ≤ d ∧ 0 ≤ s ∧ s < 2 ^ 61 ∧ 0 ≤ m ∧ m ≤ n
theorem Pot.mono {H : Hp} {a : Addr} {n k : Int} (h : Pot H a n) (e : n ≤ k) : Pot H a k := by
  obtain ⟨d, s, m, h1, h2, h3, h4, h5, h6⟩ := h
  exact ⟨d, s, m, h1, h2, h3, h4, h5, by omega⟩
theorem Pot.same {H H' : Hp} {a : Addr} {n : Int} (h : Pot H a n) (e : Same H H') : Pot H' a n := by
  obtain ⟨d, s, m, h1, r⟩ := h
  exact ⟨d, s, m, e _ _ h1, r⟩
theorem Pot.keep {K : PySem.W.Frag} {H H' : Hp} {a : Addr} {n : Int} (h : Pot H a n) (e : But a H H') : Keep K H H' := by
  obtain ⟨d, s, m, h1, r⟩ := h
  exact But.keep e h1
theorem Pot.ne {H : Hp} {a b : Addr} {n : Int} (h : Pot H a n) (e : H b = none) : b ≠ a := fun z => by
  obtain ⟨d, s, m, h1, r⟩ := h
  rw [z, h1] at e; cases e
theorem But.free {a l : Addr} {H H' : Hp} (b : But a H H') (h : H' l = none) (n : l ≠ a) : H l = none := by
  cases e : H l with
  | none => rfl
  | some o => rw [b _ _ n e] at h; cases h
theorem But.mut {a l : Addr} {H H' : Hp} {o : HO} (b : But a H H') (h : H l = none) : But a H (L2.upd H' l o) := fun c u n e => by
  rw [upd_ne (ne_of_none e h)]; exact b _ _ n e
theorem Pot.upd {H : Hp} {a l : Addr} {n : Int} {o : HO} (h : Pot H a n) (e : l ≠ a) : Pot (L2.upd H l o) a n := by
  obtain ⟨d, s, m, h1, r⟩ := h
  exact ⟨d, s, m, by rw [upd_ne e.symm]; exact h1, r⟩
theorem na_lt {x : Int} {n : Nat} (h0 : 0 ≤ x) (h1 : x < ((2 ^ n : Nat) : Int)) : x.natAbs < 2 ^ n := by omega
theorem bit01 (b : Bool) : (if b = true then (1 : Int) else 0).natAbs < 2 ^ 2 ∧ (0 : Int) ≤ (if b = true then (1 : Int) else 0) := by cases b <;> exact ⟨by decide, by decide⟩
set_option exponentiation.threshold 2000
section
variable {P : Program} {w : World} {K : PySem.W.Frag} {mg : Str → Option Value} {base : Heap}
def sp_L_s5_hand (K : PySem.W.Frag) : Sp := fun vs H Q _ => ∃ (a : Addr) (ns : List Int) (pl : Nat), vs = [.ref a, .int (pl : Int)] ∧ SqL K H a (ns.map V.int) ∧ pl ≤ 62 ∧ ∀ H' p, Same H H' → H p = none → Pot H' p 0 → Q (.ref p) H'
theorem ok_L_s5_hand (TX : Tx K mg) : FnOk P w K mg base CX0 1 TX.a_L_s5_hand TX.fd_L_s5_hand ["_law_script", "_law_nth"] (sp_L_s5_hand K) := by
  refine TX.f_L_s5_hand.ok sc_L_s5_hand (fun vs H Q E h => ?_) (fun cdv A outer s H vs Q E hr h => ?_)
  · obtain ⟨a, ns, pl, rfl, _⟩ := h; rfl
  · obtain ⟨a, ns, pl, rfl, hS, hpl, q⟩ := h
    refine ⟨_, (pss_cut (ps_set (i := 2) sc_L_s5_hand.nd rfl (.inl rfl) (pe_ifExp (pt_cmpR op_lt (pv 1) (pe_callB (id := "len") (k_len (K := K) rfl) (by rfl) TX.b_len (by decide +kernel) (pa_cons (pv 0) pa_nil)) (nomark _)) (pe_ix (k_ixL (K := K) rfl) (pv 0) (pv 1) (fun _ _ => rfl)) pe_int))
      (pss_cons (ps_set (i := 3) sc_L_s5_hand.nd rfl (.inl rfl) (pe_op op_mulW (pe_op op_mod (pe_callB (id := "abs") call_abs (by rfl) TX.b_abs (by decide +kernel) (pa_cons (pv 2) pa_nil)) (pe_op op_powW (pe_op op_powW pe_int pe_int) pe_int)) (pe_callTy (T := "int") call_int1 (by rfl) TX.b_int (by decide +kernel) (pa_cons (pe_cmpR op_ge (pe_callB (id := "abs") call_abs (by rfl) TX.b_abs (by decide +kernel) (pa_cons (pv 2) pa_nil)) (pe_op op_powW pe_int pe_int) (nomark _)) pa_nil))))
      (pss_cons (ps_set (i := 4) sc_L_s5_hand.nd rfl (.inl rfl) (pe_op op_add (pe_op op_add (pe_op op_add (pe_op op_mulW (pe_op op_mod (pv 2) pe_int) pe_int) (pe_op op_mulW (pe_op op_mulW pe_int (pv 1)) (pv 1))) (pe_op op_mulW pe_int (pv 1))) pe_int))
      (pss_one (ps_ret (pe_lst (pa_cons (pv 3) (pa_cons (pe_op op_mod (pv 4) pe_int) (pa_cons pe_int pa_nil))))))))), ?_⟩
    have P0 : (0 : Int) < (10 ^ (60 : Int).toNat) ^ (5 : Int).toNat := by decide +kernel
    have P1 : ((10 ^ (60 : Int).toNat) ^ (5 : Int).toNat : Int) < ((2 ^ 1000 : Nat) : Int) := by decide +kernel
    have nl1 : ∀ pl : Nat, pl ≤ 62 → (0 : Int) ≤ 7919 * (pl : Int) * (pl : Int) ∧ 7919 * (pl : Int) * (pl : Int) ≤ 7919 * 3844 := fun pl h => by
      have h1 : (pl : Int) * (pl : Int) ≤ 62 * 62 := Int.mul_le_mul (by omega) (by omega) (by omega) (by omega)
      have h2 : (0 : Int) ≤ (pl : Int) * (pl : Int) := Int.mul_nonneg (by omega) (by omega)
      rw [Int.mul_assoc]; omega
    refine ⟨fun σ' H2 => H2 = H ∧ ∃ c : Int, σ' = [some (.ref a), some (.int (pl : Int)), some (.int c), none, none], ?_, ?_⟩
    · refine ⟨_, rfl, .ref a, rfl, a, _, rfl, .inl hS, _, _, rfl, rfl, _, rfl, ?_⟩
      refine ite2 (fun h => ?_) (fun h => ?_)
      · have hlt : pl < ns.length := by
          have := of_decide_eq_true h
          rw [List.length_map] at this
          omega
        exact ⟨.ref a, rfl, _, rfl, a, _, _, .int ns[pl], rfl, rfl, hS, atI_nat (by rw [List.getElem?_map, List.getElem?_eq_getElem hlt]; rfl), rfl, _, rfl⟩
      · exact ⟨rfl, _, rfl⟩
    · rintro σ' H2 ⟨rfl, c, rfl⟩
      have c0 := Int.emod_nonneg c (show (2305843009213693951 : Int) ≠ 0 by decide)
      have c1 := Int.emod_lt_of_pos c (show (0 : Int) < 2305843009213693951 by decide)
      refine ⟨_, rfl, _, rfl, _, _, rfl, rfl, ⟨by decide, by decide +kernel⟩, _, _, rfl, rfl, ⟨by decide, by decide +kernel⟩, _, _, rfl, rfl, P0, _, rfl, _, rfl, _, _, rfl, rfl, ⟨by decide, by decide +kernel⟩, _, _, rfl, rfl, .inr ⟨_, rfl, _, _, rfl, rfl, ?_, ?_⟩⟩
      · exact wide_mul (a := 1000) (b := 2) (na_lt (Int.emod_nonneg _ (Int.ne_of_gt P0)) (Int.lt_trans (Int.emod_lt_of_pos _ P0) P1)) (bit01 _).1 (by decide) (by decide) (by decide)
      · have := nl1 pl hpl
        refine ⟨_, rfl, _, _, rfl, rfl, (show (0 : Int) < 2305843009213693951 by decide), _, _, rfl, rfl, wide_mul (a := 61) (b := 20) (by omega) (by decide) (by decide) (by decide) (by decide), _, rfl, _, _, rfl, rfl, wide_mul (a := 13) (b := 7) (by decide) (by omega) (by decide) (by decide) (by decide), _, rfl, _, _, rfl, rfl, wide_mul (a := 20) (b := 7) (by omega) (by omega) (by decide) (by decide) (by decide), _, _, rfl, rfl, _, rfl, _, _, rfl, rfl, wide_mul (a := 13) (b := 7) (by decide) (by omega) (by decide) (by decide) (by decide), _, _, rfl, rfl, _, _, rfl, rfl, ?_⟩
        refine ⟨_, rfl, _, rfl, _, _, rfl, rfl, (show (0 : Int) < 2305843009213693921 by decide), sz60 (by simp), fun p np => q _ p (same_upd np) np ?_⟩
        refine ⟨_, _, _, upd_same, ?_, Int.emod_nonneg _ (by decide), Int.lt_trans (Int.emod_lt_of_pos _ (by decide)) (by decide), by decide, by decide⟩
        refine Int.mul_nonneg (Int.emod_nonneg _ (Int.ne_of_gt P0)) ?_
        exact (bit01 _).2
def sp_L_s5_take (K : PySem.W.Frag) : Sp := fun vs H Q _ => ∃ (a : Addr) (z n : Int), vs = [.ref a, .int z] ∧ Pot H a n ∧ n ≤ 100000 ∧ 1 ≤ z ∧ z ≤ 2 ^ 64 ∧ ∀ H' r, But a H H' → Pot H' a (n + 1) → 0 ≤ r → r < z → Q (.int r) H'
theorem prime_at {m : Int} (h0 : 0 ≤ m) : ∃ v : Int, atI [V.int 2147483647, V.int 2147483629, V.int 2147483587, V.int 2147483579, V.int 2147483563, V.int 2147483549, V.int 2147483543, V.int 2147483497] (m % 8) = some (.int v) ∧ 2147483400 < v ∧ v < 2 ^ 31 := by
  have h : m % 8 = 0 ∨ m % 8 = 1 ∨ m % 8 = 2 ∨ m % 8 = 3 ∨ m % 8 = 4 ∨ m % 8 = 5 ∨ m % 8 = 6 ∨ m % 8 = 7 := by omega
  rcases h with h | h | h | h | h | h | h | h <;> rw [h]
  · exact ⟨_, rfl, by decide, by decide⟩
  · exact ⟨_, rfl, by decide, by decide⟩
  · exact ⟨_, rfl, by decide, by decide⟩
  · exact ⟨_, rfl, by decide, by decide⟩
  · exact ⟨_, rfl, by decide, by decide⟩
  · exact ⟨_, rfl, by decide, by decide⟩
  · exact ⟨_, rfl, by decide, by decide⟩
  · exact ⟨_, rfl, by decide, by decide⟩
theorem ok_L_s5_take (TX : Tx K mg) : FnOk P w K mg base CX0 1 TX.a_L_s5_take TX.fd_L_s5_take ["_law_hand", "_law_size"] (sp_L_s5_take K) := by
  refine TX.f_L_s5_take.ok sc_L_s5_take (fun vs H Q E h => ?_) (fun cdv A outer s H vs Q E hr h => ?_)
  · obtain ⟨a, z, n, rfl, _⟩ := h; rfl
  · obtain ⟨a, z, n, rfl, ⟨d, sd, m, hp, hd, hs0, hs1, hm0, hm1⟩, hn, hz1, hz2, q⟩ := h
    refine ⟨_, (pss_cons (ps_if (pt_cmpR op_gt (pe_ix (k_ixL (K := K) rfl) (pv 0) pe_int (fun _ _ => rfl)) pe_int (nomark _))
        (pss_cons (ps_set (i := 2) sc_L_s5_take.nd rfl (.inl rfl) (pe_op op_mod (pe_ix (k_ixL (K := K) rfl) (pv 0) pe_int (fun _ _ => rfl)) (pv 1)))
        (pss_cons (ps_asg (pe_op op_fdivW (pe_ix (k_ixL (K := K) rfl) (pv 0) pe_int (fun _ _ => rfl)) (pv 1)) (pg_sub (pv 0) pe_int set_list))
        (pss_one (ps_ret (pv 2)))))
        pss_nil)
      (pss_cons (ps_asg (pe_op op_add (pe_ix (k_ixL (K := K) rfl) (pv 0) pe_int (fun _ _ => rfl)) pe_int) (pg_sub (pv 0) pe_int set_list))
      (pss_cons (ps_set (i := 3) sc_L_s5_take.nd rfl (.inl rfl) (pe_lst (pa_cons pe_int (pa_cons pe_int (pa_cons pe_int (pa_cons pe_int (pa_cons pe_int (pa_cons pe_int (pa_cons pe_int (pa_cons pe_int pa_nil))))))))))
      (pss_cons (ps_set (i := 4) sc_L_s5_take.nd rfl (.inl rfl) (pe_ix (k_ixL (K := K) rfl) (pv 3) (pe_op op_mod (pe_ix (k_ixL (K := K) rfl) (pv 0) pe_int (fun _ _ => rfl)) pe_int) (fun _ _ => rfl)))
      (pss_cons (ps_set (i := 5) sc_L_s5_take.nd rfl (.inl rfl) (pe_op op_add (pe_op op_mod (pe_op op_mod (pe_op op_add (pe_ix (k_ixL (K := K) rfl) (pv 0) pe_int (fun _ _ => rfl)) (pe_op op_mulW (pe_op op_mulW pe_int (pe_ix (k_ixL (K := K) rfl) (pv 0) pe_int (fun _ _ => rfl))) (pe_ix (k_ixL (K := K) rfl) (pv 0) pe_int (fun _ _ => rfl)))) (pe_op op_mulW (pv 4) (pv 4))) (pv 4)) pe_int))
      (pss_cons (ps_set (i := 6) sc_L_s5_take.nd rfl (.inl rfl) (pe_op op_fdivW (pe_op op_mod (pe_op op_mulW (pe_op op_mod (pe_op op_mulW (pv 5) (pe_op op_add (pe_op op_mod (pv 5) pe_int) (pe_ix (k_ixL (K := K) rfl) (pv 0) pe_int (fun _ _ => rfl)))) (pv 4)) pe_int) (pv 4)) pe_int))
      (pss_cons (ps_if (pt_cmpR op_gt (pv 1) (pe_op op_powW pe_int pe_int) (nomark _))
        (pss_one (ps_set (i := 6) sc_L_s5_take.nd rfl (.inl rfl) (pe_op op_mod (pe_op op_pow (pe_op op_add (pv 6) pe_int) pe_int) (pe_op op_add (pe_op op_powW pe_int pe_int) pe_int))))
        pss_nil)
      (pss_one (ps_ret (pe_op op_mod (pv 6) (pv 1))))))))))), ?_⟩
    refine ⟨.ref a, rfl, a, _, _, .int d, rfl, rfl, .inl (.inl hp), rfl, _, _, rfl, rfl, _, rfl, ite2 (fun h => ?_) (fun h => ?_)⟩
    · refine ⟨.ref a, rfl, a, _, _, .int d, rfl, rfl, .inl (.inl hp), rfl, _, rfl, _, _, rfl, rfl, (show 0 < z by omega), ?_⟩
      refine ⟨.ref a, rfl, a, _, _, .int d, rfl, rfl, .inl (.inl hp), rfl, _, rfl, _, _, rfl, rfl, wide_div (b := 66) (by omega) (by omega) (by decide) (by decide), .ref a, rfl, a, _, 0, 0, rfl, rfl, hp, rfl, ?_⟩
      refine ⟨_, rfl, q _ _ But.upd ⟨d / z, sd, m, upd_same, Int.ediv_nonneg hd (by omega), hs0, hs1, hm0, by omega⟩ (Int.emod_nonneg _ (by omega)) (Int.emod_lt_of_pos _ (by omega))⟩
    · refine ⟨.ref a, rfl, a, _, _, .int m, rfl, rfl, .inl (.inl hp), rfl, _, _, rfl, rfl, .ref a, rfl, a, _, 2, 2, rfl, rfl, hp, rfl, ?_⟩
      have hp1 : (upd H a (.lst (List.set [V.int d, V.int sd, V.int m] 2 (V.int (m + 1))))) a = some (.lst [V.int d, V.int sd, V.int (m + 1)]) := upd_same
      have b1 : But a H (upd H a (.lst (List.set [V.int d, V.int sd, V.int m] 2 (V.int (m + 1))))) := But.upd
      generalize upd H a (.lst (List.set [V.int d, V.int sd, V.int m] 2 (V.int (m + 1)))) = H1 at hp1 b1 ⊢
      refine ⟨sz60 (by simp), fun pl npl => ?_⟩
      have s2 := same_upd (o := .lst [V.int 2147483647, V.int 2147483629, V.int 2147483587, V.int 2147483579, V.int 2147483563, V.int 2147483549, V.int 2147483543, V.int 2147483497]) npl
      have hp2 := s2 _ _ hp1
      obtain ⟨pr, hpr, pr0, pr1⟩ := prime_at (m := m + 1) (by omega)
      refine ⟨.ref pl, rfl, .ref a, rfl, a, _, _, _, rfl, rfl, .inl (.inl hp2), rfl, _, _, rfl, rfl, (show (0 : Int) < 8 by decide), pl, _, _, .int pr, rfl, rfl, .inl (.inl upd_same), hpr, ?_⟩
      have k1 : (m + 1) * (m + 1) ≤ 100001 * 100001 := Int.mul_le_mul (by omega) (by omega) (by omega) (by omega)
      have k2 : (0 : Int) ≤ (m + 1) * (m + 1) := Int.mul_nonneg (by omega) (by omega)
      have k3 : 69621 * (m + 1) * (m + 1) = 69621 * ((m + 1) * (m + 1)) := Int.mul_assoc _ _ _
      have k4 : 0 < pr * pr := Int.mul_pos (by omega) (by omega)
      refine ⟨.ref a, rfl, a, _, _, _, rfl, rfl, .inl (.inl hp2), rfl, .ref a, rfl, a, _, _, _, rfl, rfl, .inl (.inl hp2), rfl, _, _, rfl, rfl, wide_mul (a := 17) (b := 18) (by decide) (by omega) (by decide) (by decide) (by decide), .ref a, rfl, a, _, _, _, rfl, rfl, .inl (.inl hp2), rfl, _, _, rfl, rfl, wide_mul (a := 36) (b := 18) (by omega) (by omega) (by decide) (by decide) (by decide), _, _, rfl, rfl, _, rfl, _, rfl, _, _, rfl, rfl, wide_mul (a := 31) (b := 31) (by omega) (by omega) (by decide) (by decide) (by decide), _, _, rfl, rfl, k4, _, rfl, _, _, rfl, rfl, (show 0 < pr by omega), _, _, rfl, rfl, ?_⟩
      generalize hmx : (sd + 69621 * (m + 1) * (m + 1)) % (pr * pr) % pr + 1 = mx
      have mx0 : 0 < mx := by rw [← hmx]; have := Int.emod_nonneg ((sd + 69621 * (m + 1) * (m + 1)) % (pr * pr)) (show pr ≠ 0 by omega); omega
      have mx1 : mx ≤ pr := by rw [← hmx]; have := Int.emod_lt_of_pos ((sd + 69621 * (m + 1) * (m + 1)) % (pr * pr)) (show 0 < pr by omega); omega
      refine ⟨_, rfl, _, rfl, _, _, rfl, rfl, (show (0 : Int) < 1009 by decide), .ref a, rfl, a, _, _, _, rfl, rfl, .inl (.inl hp2), rfl, _, _, rfl, rfl, _, _, rfl, rfl, wide_mul (a := 32) (b := 20) (by omega) (by omega) (by decide) (by decide) (by decide), _, rfl, _, _, rfl, rfl, (show 0 < pr by omega), _, _, rfl, rfl, ?_, _, rfl, _, _, rfl, rfl, (show 0 < pr by omega), _, _, rfl, rfl, wide_div (b := 4) (by decide) (by decide) (by decide) (by decide), ?_⟩
      · refine wide_mul (a := 32) (b := 17) (na_lt (Int.emod_nonneg _ (by omega)) (Int.lt_trans (Int.emod_lt_of_pos _ (by omega)) (by omega))) (by decide) (by decide) (by decide) (by decide)
      generalize hdr : mx * (mx % 1009 + (m + 1)) % pr * 48271 % pr / 7 = dr
      have dr0 : 0 ≤ dr := by rw [← hdr]; exact Int.ediv_nonneg (Int.emod_nonneg _ (by omega)) (by decide)
      have dr1 : dr < pr := by
        rw [← hdr]
        have h1 := Int.emod_lt_of_pos (mx * (mx % 1009 + (m + 1)) % pr * 48271) (show 0 < pr by omega)
        have h2 := Int.emod_nonneg (mx * (mx % 1009 + (m + 1)) % pr * 48271) (show pr ≠ 0 by omega)
        omega
      have fin : ∀ x : Int, Q (.int (x % z)) (upd H1 pl (.lst [V.int 2147483647, V.int 2147483629, V.int 2147483587, V.int 2147483579, V.int 2147483563, V.int 2147483549, V.int 2147483543, V.int 2147483497])) := fun x =>
        q _ _ (b1.trans (But.of s2)) ⟨d, sd, m + 1, hp2, hd, hs0, hs1, by omega, by omega⟩ (Int.emod_nonneg _ (by omega)) (Int.emod_lt_of_pos _ (by omega))
      have q0 : (0 : Int) < 10 ^ (40 : Int).toNat + 121 := by decide +kernel
      refine ⟨_, rfl, _, _, rfl, rfl, ⟨by decide, by decide +kernel⟩, _, _, rfl, rfl, _, rfl, ite2 (fun h => ?_) (fun h => ?_)⟩
      · refine ⟨_, rfl, _, _, rfl, rfl, _, _, rfl, rfl, ⟨by decide, by decide, by rw [hmx, hdr]; omega⟩, _, _, rfl, rfl, ⟨by decide, by decide +kernel⟩, _, _, rfl, rfl, _, _, rfl, rfl, q0, ?_⟩
        exact ⟨_, rfl, _, rfl, _, _, rfl, rfl, (show 0 < z by omega), fin _⟩
      · exact ⟨_, rfl, _, rfl, _, _, rfl, rfl, (show 0 < z by omega), fin _⟩
def sp_L_s5_of (K : PySem.W.Frag) : Sp := fun vs H Q _ => ∃ (a l : Addr) (xs : List V) (n : Int), vs = [.ref a, .ref l] ∧ Pot H a n ∧ n ≤ 100000 ∧ SqL K H l xs ∧ l ≠ a ∧ xs ≠ [] ∧ xs.length ≤ 100000 ∧ ∀ H' v, But a H H' → Pot H' a (n + 1) → v ∈ xs → Q v H'
theorem But.seq {K : PySem.W.Frag} {a l : Addr} {H H' : Hp} {xs : List V} (b : But a H H') (n : l ≠ a) (h : SqL K H l xs) : SqL K H' l xs := by
  rcases h with (h | ⟨o, h⟩) | h
  · exact .inl (.inl (b _ _ n h))
  · exact .inl (.inr ⟨o, b _ _ n h⟩)
  · exact .inr h
theorem ok_L_s5_of (TX : Tx K mg) : FnOk P w K mg base CX0 2 TX.a_L_s5_of TX.fd_L_s5_of ["_law_hand", "_law_options"] (sp_L_s5_of K) := by
  refine TX.f_L_s5_of.ok sc_L_s5_of (fun vs H Q E h => ?_) (fun cdv A outer s H vs Q E hr h => ?_)
  · obtain ⟨a, l, xs, n, rfl, _⟩ := h; rfl
  · obtain ⟨a, l, xs, n, rfl, hp, hn, hl, nla, hne, hlen, q⟩ := h
    refine ⟨_, (pss_one (ps_ret (pe_ix (k_ixL (K := K) rfl) (pv 1) (pe_call (ok_L_s5_take TX) (hr.mono (by decide)) (by rfl) TX.g_L_s5_take TX.f_L_s5_take.kp TX.bd_L_s5_take .nil pass0 (pa_cons (pv 0) (pa_cons (pe_callB (id := "len") (k_len (K := K) rfl) (by rfl) TX.b_len (by decide +kernel) (pa_cons (pv 1) pa_nil)) pa_nil))) (fun _ _ => rfl)))), ?_⟩
    have h0 : 0 < xs.length := List.length_pos_iff.mpr hne
    refine ⟨.ref l, rfl, .ref a, rfl, .ref l, rfl, l, _, rfl, .inl hl, a, _, n, rfl, hp, hn, by omega, by omega, fun H' r b1 p1 r0 r1 => ?_⟩
    have er : r = ((r.toNat : Nat) : Int) := by omega
    have hr1 : r.toNat < xs.length := by omega
    have hat : atI xs r = some xs[r.toNat] := by
      have := atI_nat (List.getElem?_eq_getElem hr1)
      rwa [← er] at this
    exact ⟨l, xs, r, xs[r.toNat], rfl, rfl, b1.seq nla hl, hat, q _ _ b1 p1 (List.getElem_mem ..)⟩
end
/-! ### what stands beside the draws' list -/
def off (a : Addr) (H : Hp) : Hp := fun b => if b = a then none else H b
theorem off_at {a b : Addr} {H : Hp} (h : b ≠ a) : off a H b = H b := if_neg h
theorem off_sub {a : Addr} {H : Hp} : Same (off a H) H := fun b o e => by
  by_cases h : b = a
  · unfold off at e; rw [if_pos h] at e; cases e
  · rwa [off_at h] at e
theorem off_but {a : Addr} {H H' : Hp} (b : But a H H') : Same (off a H) (off a H') := fun c o e => by
  by_cases h : c = a
  · unfold off at e; rw [if_pos h] at e; cases e
  · rw [off_at h] at e ⊢; exact b _ _ h e
theorem off_same {a : Addr} {H H' : Hp} (s : Same H H') : Same (off a H) (off a H') := off_but (But.of s)
theorem off_extN {a : Addr} {H H' : Hp} (s : LamX.ExtN H H') : LamX.ExtN (off a H) (off a H') := fun c o e n => by
  by_cases h : c = a
  · unfold off at e; rw [if_pos h] at e; cases e
  · rw [off_at h] at e ⊢; exact s _ _ e n
theorem off_new {a : Addr} {H G : Hp} {o : HO} (ha : H a = some o) : Same (fun b => match H b with | none => G b | some _ => none) (off a G) := fun c u e => by
  have e' : (match H c with | none => G c | some _ => none) = some u := e
  cases h : H c with
  | some x => rw [h] at e'; cases e'
  | none =>
    rw [h] at e'
    rw [off_at (fun z => by rw [z, ha] at h; cases h)]
    exact e'
/-! ### data whose repr is short -/
structure Sn (k n : Nat) (d : PyData) : Prop where
  dep : d.depth ≤ k
  shw : d.showable = true
  short : d.leavesShort 60 = true
  bulk : d.bulk ≤ n
theorem Sn.mono {k n k' n' : Nat} {d : PyData} (h : Sn k n d) (e : k ≤ k') (e' : n ≤ n') : Sn k' n' d := ⟨Nat.le_trans h.dep e, h.shw, h.short, Nat.le_trans h.bulk e'⟩
theorem Sn.t1 {k n : Nat} {d : PyData} (h : Sn k n d) : Sn (k + 1) (n + 8) (.tuple [d]) := by
  obtain ⟨a, b, c, e⟩ := h
  refine ⟨?_, ?_, ?_, ?_⟩
  · simp [PyData.depth, PyData.depthAll]; omega
  · simp [PyData.showable, PyData.showableAll, b]
  · simp [PyData.leavesShort, PyData.leavesShortAll, c]
  · simp [PyData.bulk, PyData.bulkAll]; omega
theorem Sn.t2 {k n m : Nat} {d e : PyData} (h : Sn k n d) (h' : Sn k m e) : Sn (k + 1) (n + m + 8) (.tuple [d, e]) := by
  obtain ⟨a, b, c, f⟩ := h
  obtain ⟨a', b', c', f'⟩ := h'
  refine ⟨?_, ?_, ?_, ?_⟩
  · simp [PyData.depth, PyData.depthAll]; omega
  · simp [PyData.showable, PyData.showableAll, b, b']
  · simp [PyData.leavesShort, PyData.leavesShortAll, c, c']
  · simp [PyData.bulk, PyData.bulkAll]; omega
theorem Sn.l1 {k n : Nat} {d : PyData} (h : Sn k n d) : Sn (k + 1) (n + 8) (.list [d]) := by
  obtain ⟨a, b, c, e⟩ := h
  refine ⟨?_, ?_, ?_, ?_⟩
  · simp [PyData.depth, PyData.depthAll]; omega
  · simp [PyData.showable, PyData.showableAll, b]
  · simp [PyData.leavesShort, PyData.leavesShortAll, c]
  · simp [PyData.bulk, PyData.bulkAll]; omega
theorem Sn.d1 {k n : Nat} {d : PyData} (h : Sn k n d) : Sn (k + 1) (n + 8) (.dict [(.str "a", d)]) := by
  obtain ⟨a, b, c, e⟩ := h
  have z : (Str.ofString "a").cps.size = 1 := by decide +kernel
  refine ⟨?_, ?_, ?_, ?_⟩
  · simp [PyData.depth, PyData.depthKv]; omega
  · simp [PyData.showable, PyData.showableKv, b]
  · simp only [PyData.leavesShort, PyData.leavesShortKv, c, Bool.and_true]
    decide +kernel
  · simp [PyData.bulk, PyData.bulkKv]; omega
theorem Sn.none {k n : Nat} : Sn k n .none := ⟨by simp [PyData.depth], by simp [PyData.showable], by simp [PyData.leavesShort], by simp [PyData.bulk]⟩
theorem Sn.str {k n : Nat} {x : Str} (h : (PyData.str x).leavesShort 60 = true) (hz : x.cps.size ≤ n) : Sn k n (.str x) := ⟨by simp [PyData.depth], by simp [PyData.showable], h, by simp [PyData.bulk]; omega⟩
theorem Sn.int {k n : Nat} {i : Int} (h : i.natAbs < 10 ^ 50) : Sn k n (.int i) := by
  refine ⟨by simp [PyData.depth], ?_, ?_, by simp [PyData.bulk]⟩
  · simp only [PyData.showable]
    refine decide_eq_true ?_
    by_cases h0 : i.natAbs = 0
    · rw [h0]; decide
    · exact Nat.lt_trans ((Nat.log2_lt h0).mpr (show i.natAbs < 2 ^ 200 from Nat.lt_trans h (by decide +kernel))) (by decide)
  · simp only [PyData.leavesShort]
    refine decide_eq_true ?_
    have e := int_text_length_le10 (a := i) (k := 50) (by decide) h
    have e2 : (PyData.shown (.int i)).length = (toString i).length := by
      simp only [PyData.shown]
      exact PySem.ofString_length _
    omega
theorem Sn.bool {k n : Nat} {b : Bool} : Sn k n (.bool b) := ⟨by simp [PyData.depth], by simp [PyData.showable], by simp [PyData.leavesShort], by simp [PyData.bulk]⟩
/-- repr(x) -/
theorem Sn.repr {k n : Nat} {d : PyData} (h : Sn k n d) (hk : k ≤ 60) (hn : n ≤ 200000) : d.showable = true ∧ d.depth ≤ 60 ∧ d.shown.length ≤ sizeLine := by
  refine ⟨h.shw, Nat.le_trans h.dep hk, ?_⟩
  have h1 := PyData.shown_le_bulk 60 (by decide) d h.short
  have h3 : (60 + 2) * d.bulk ≤ 62 * 200000 := Nat.mul_le_mul (Nat.le_refl _) (Nat.le_trans h.bulk hn)
  have h4 : sizeLine = 16777216 := by decide
  omega
/-! ### no count from lo to hi -/
def Bad (lo hi : Int) : PyData → Prop
  | .int i => (decide (lo ≤ i) && decide (i ≤ hi)) = false
  | _ => True
def NoInt : PyData → Prop
  | .int _ => False
  | _ => True
theorem notJ_of {K : PySem.W.Frag} {H : Hp} {x : V} {d : PyData} (h : Dq K H x d) (hn : NoInt d) : NotJ K H x := by
  cases h with
  | nonq => exact ⟨"NoneType", false, false, .base .non, by decide +kernel, by decide +kernel, rfl⟩
  | blq b => exact ⟨"bool", true, true, .base (.bl b), by decide +kernel, by decide +kernel, rfl⟩
  | intq i => exact (show False from hn).elim
  | strq x => exact ⟨"str", false, false, .base (.str x), by decide +kernel, by decide +kernel, rfl⟩
  | lstq hs _ _ =>
    refine ⟨"list", false, false, ?_, by decide +kernel, by decide +kernel, rfl⟩
    rcases hs with (h | ⟨o, h⟩) | ⟨o, its, n, h1, h2, _⟩
    · exact .base (.lst h)
    · exact .base (.frz h)
    · exact .kList h1 h2
  | tupq hs _ =>
    refine ⟨"tuple", false, false, ?_, by decide +kernel, by decide +kernel, rfl⟩
    rcases hs with (h | ⟨o, h⟩) | ⟨o, its, n, h1, h2, _⟩
    · exact .base (.tup h)
    · exact .fTuple h
    · exact .kTuple h1 h2
  | dctq he _ _ => exact ⟨"dict", false, false, .base (.dK he), by decide +kernel, by decide +kernel, rfl⟩
theorem noBud_of {K : PySem.W.Frag} {H : Hp} {x : V} {d : PyData} {m : Int} (h : Dq K H x d) (hn : Bad 0 m d) : NoBud K H m x := by
  by_cases e : NoInt d
  · exact .inr (notJ_of h e)
  · cases h with
    | intq i => exact .inl ⟨i, rfl, hn⟩
    | nonq => exact (e trivial).elim
    | blq b => exact (e trivial).elim
    | strq x => exact (e trivial).elim
    | lstq _ _ _ => exact (e trivial).elim
    | tupq _ _ => exact (e trivial).elim
    | dctq _ _ _ => exact (e trivial).elim
section
variable {P : Program} {w : World} {K : PySem.W.Frag} {mg : Str → Option Value} {base : Heap}
end
/-! ### states, of values of any kind -/
def isTup : PyData → Bool
  | .tuple _ => true
  | _ => false
def elOk (c : Nat) : PyData → Bool
  | .int i => decide (1 ≤ i) && decide (i ≤ (c : Int))
  | _ => false
def isStD (k c : Nat) : PyData → Bool
  | .tuple ds => decide (ds.length ≤ k) && ds.all (elOk c)
  | _ => false
theorem isStD_no {k c : Nat} {d : PyData} (h : isTup d = false) : isStD k c d = false := by
  cases d <;> first | rfl | cases h
theorem tup_ty {K : PySem.W.Frag} {H : Hp} {x : V} {d : PyData} (h : Dq K H x d) : ∃ T, TyX K H x (.type T) ∧ L2.kitB T "tuple" = some (isTup d) := by
  cases h with
  | nonq => exact ⟨"NoneType", .base .non, show L2.kitB "NoneType" "tuple" = some false by decide +kernel⟩
  | blq b => exact ⟨"bool", .base (.bl b), show L2.kitB "bool" "tuple" = some false by decide +kernel⟩
  | intq i => exact ⟨"int", .base (.int i), show L2.kitB "int" "tuple" = some false by decide +kernel⟩
  | strq x => exact ⟨"str", .base (.str x), show L2.kitB "str" "tuple" = some false by decide +kernel⟩
  | lstq hs _ _ =>
    refine ⟨"list", ?_, show L2.kitB "list" "tuple" = some false by decide +kernel⟩
    rcases hs with (h | ⟨o, h⟩) | ⟨o, its, n, h1, h2, _⟩
    · exact .base (.lst h)
    · exact .base (.frz h)
    · exact .kList h1 h2
  | tupq hs _ =>
    refine ⟨"tuple", ?_, show L2.kitB "tuple" "tuple" = some true by decide +kernel⟩
    rcases hs with (h | ⟨o, h⟩) | ⟨o, its, n, h1, h2, _⟩
    · exact .base (.tup h)
    · exact .fTuple h
    · exact .kTuple h1 h2
  | dctq he _ _ => exact ⟨"dict", .base (.dK he), show L2.kitB "dict" "tuple" = some false by decide +kernel⟩
theorem DqAll.at {K : PySem.W.Frag} {H : Hp} : ∀ {vs : List V} {ds : List PyData} {i : Nat} {v : V}, DqAll K H vs ds → vs[i]? = some v → ∃ d, ds[i]? = some d ∧ Dq K H v d := fun {vs} => by
  induction vs with
  | nil => intro ds i v h e; simp at e
  | cons u us ih =>
    intro ds i v h e
    cases h with
    | cons a b =>
      cases i with
      | zero => cases e; exact ⟨_, rfl, a⟩
      | succ i => obtain ⟨d, h1, h2⟩ := ih b e; exact ⟨d, h1, h2⟩
theorem DqAll.len {K : PySem.W.Frag} {H : Hp} : ∀ {vs : List V} {ds : List PyData}, DqAll K H vs ds → vs.length = ds.length
  | _, _, .nil => rfl
  | _, _, .cons a b => by simp [DqAll.len b]
section
variable {P : Program} {w : World} {K : PySem.W.Frag} {mg : Str → Option Value} {base : Heap}
def BudX (TX : Tx K mg) (m : Int) (y z : V) (H : Hp) (E : XK) : Prop := ∃ v, ((NoBud K H m y ∧ v = y) ∨ (Bud m y ∧ (∀ H', Same H H' → NoBud K H' m z) ∧ v = z)) ∧ ∀ dd H', Same H H' → H' dd = some (.xd [("value", v)]) → E (.ref TX.c_InvalidBudget) (some dd) H'
end
/-! ### values that are no states within the budgets -/
theorem Sn.tupl {k n m : Nat} {ds : List PyData} (h : ∀ d, d ∈ ds → Sn k n d) (hm : (n + 8) * ds.length + 8 ≤ m) : Sn (k + 1) m (.tuple ds) := by
  have key : ∀ ds : List PyData, (∀ d, d ∈ ds → Sn k n d) → PyData.depthAll ds ≤ k ∧ PyData.showableAll ds = true ∧ PyData.leavesShortAll 60 ds = true ∧ PyData.bulkAll ds ≤ (n + 8) * ds.length := fun ds => by
    induction ds with
    | nil => intro _; exact ⟨by simp [PyData.depthAll], by simp [PyData.showableAll], by simp [PyData.leavesShortAll], by simp [PyData.bulkAll]⟩
    | cons d ds ih =>
      intro h
      have h1 := h d (List.mem_cons_self ..)
      obtain ⟨a, b, c, e⟩ := ih fun x hx => h x (List.mem_cons_of_mem _ hx)
      refine ⟨?_, by simp only [PyData.showableAll, h1.shw, b, Bool.and_self], by simp only [PyData.leavesShortAll, h1.short, c, Bool.and_self], ?_⟩
      · simp only [PyData.depthAll]
        have := h1.dep
        omega
      · simp only [PyData.bulkAll, List.length_cons]
        have := h1.bulk
        rw [Nat.mul_add]
        omega
  obtain ⟨a, b, c, e⟩ := key ds h
  refine ⟨by simp only [PyData.depth]; omega, by simp only [PyData.showable]; exact b, by simp only [PyData.leavesShort]; exact c, by simp only [PyData.bulk]; omega⟩
theorem Sn.lstl {k n m : Nat} {ds : List PyData} (h : ∀ d, d ∈ ds → Sn k n d) (hm : (n + 8) * ds.length + 8 ≤ m) : Sn (k + 1) m (.list ds) := by
  obtain ⟨a, b, c, e⟩ := Sn.tupl h hm
  exact ⟨by simp only [PyData.depth] at a ⊢; exact a, by simp only [PyData.showable] at b ⊢; exact b, by simp only [PyData.leavesShort] at c ⊢; exact c, by simp only [PyData.bulk] at e ⊢; exact e⟩
theorem Sn.nats {st : List Nat} (h : ∀ x, x ∈ st → x ≤ 61) : ∀ d, d ∈ (ci st).map PyData.int → Sn 0 0 d := fun d hd => by
  unfold ci at hd
  rw [List.map_map] at hd
  obtain ⟨x, hx, rfl⟩ := List.mem_map.mp hd
  exact .int (Nat.lt_of_le_of_lt (show ((x : Nat) : Int).natAbs ≤ 61 by have := h x hx; omega) (by decide +kernel))
theorem dqInts {K : PySem.W.Frag} {H : Hp} : ∀ (st : List Nat), DqAll K H (vi st) ((ci st).map PyData.int)
  | [] => .nil
  | x :: st => .cons (.intq _) (dqInts st)
theorem DqAll.app {K : PySem.W.Frag} {H : Hp} : ∀ {vs ws : List V} {ds es : List PyData}, DqAll K H vs ds → DqAll K H ws es → DqAll K H (vs ++ ws) (ds ++ es)
  | _, _, _, _, .nil, s => s
  | _, _, _, _, .cons a b, s => .cons a (DqAll.app b s)
theorem isStD_last {k c : Nat} {ds : List PyData} {d : PyData} (h : elOk c d = false) : isStD k c (.tuple (ds ++ [d])) = false := by
  simp only [isStD, List.all_append, List.all_cons, List.all_nil, h, Bool.false_and, Bool.and_false]
theorem isStD_first {k c : Nat} {ds : List PyData} {d : PyData} (h : elOk c d = false) : isStD k c (.tuple (d :: ds)) = false := by
  simp only [isStD, List.all_cons, h, Bool.false_and, Bool.and_false]
theorem off_tup {K : PySem.W.Frag} {H : Hp} {a b : Addr} {xs ys : List V} (h : SqT K H b xs) (ha : H a = some (.lst ys)) : SqT K (off a H) b xs := by
  rcases h with (h | ⟨o, h⟩) | h
  · exact .inl (.inl (by rw [off_at (fun e => by rw [e, ha] at h; cases h)]; exact h))
  · exact .inl (.inr ⟨o, by rw [off_at (fun e => by rw [e, ha] at h; cases h)]; exact h⟩)
  · exact .inr h
theorem dq_ot {K : PySem.W.Frag} {H : Hp} {p t : Addr} {n : Int} {xs : List V} {ds : List PyData} (hp : Pot H p n) (h : SqT K H t xs) (hA : DqAll K (off p H) xs ds) : Dq K (off p H) (.ref t) (.tuple ds) := by
  obtain ⟨_, _, _, e, _⟩ := hp
  exact .tupq (off_tup h e) hA
theorem dq_ol {K : PySem.W.Frag} {H : Hp} {p t : Addr} {xs : List V} {ds : List PyData} (h : H t = some (.lst xs)) (ht : t ≠ p) (hs : t ≠ sysModules) (hA : DqAll K (off p H) xs ds) : Dq K (off p H) (.ref t) (.list ds) :=
  .lstq (.inl (.inl (by rw [off_at ht]; exact h))) hs hA
section
variable {P : Program} {w : World} {K : PySem.W.Frag} {mg : Str → Option Value} {base : Heap}
end
/-! ### schedules, of values of any kind -/
def isSchR : Nat → List PyData → Bool
  | _, [] => true
  | r, .int i :: ds => (decide (0 ≤ i) && decide (i ≤ (r : Int))) && isSchR (r + 1 - i.toNat) ds
  | _, _ :: _ => false
def isSchD : PyData → Bool
  | .tuple ds => decide (ds.length ≤ 60) && isSchR 0 ds
  | _ => false
section
variable {P : Program} {w : World} {K : PySem.W.Frag} {mg : Str → Option Value} {base : Heap}
def sp_is_schedule (K : PySem.W.Frag) : Sp := fun vs H Q _ => ∃ (x : V) (d : PyData), vs = [x] ∧ Dq K H x d ∧ Q (.bl (isSchD d)) H
theorem ok_is_schedule (TX : Tx K mg) : FnOk P w K mg base CX0 4 TX.a_is_schedule TX.fd_is_schedule ["value"] (sp_is_schedule K) := by
  refine TX.f_is_schedule.ok sc_is_schedule (fun vs H Q E h => ?_) (fun cdv A outer s H vs Q E hr h => ?_)
  · obtain ⟨x, d, rfl, _⟩ := h; rfl
  · obtain ⟨x, d, rfl, hq, q⟩ := h
    refine ⟨_, (pss_cons (ps_if (PW.pt (pw_or (pt_not (pt_val (pe_callB (id := "isinstance") (k_isi (K := K) rfl) (by rfl) TX.b_isinstance (by decide +kernel) (pa_cons (pv 0) (pa_cons (pe_bltn (v := .ty "tuple") (by rfl) TX.b_tuple (by decide +kernel) rfl) pa_nil))))) (pw_or1 (pt_cmpR op_gt (pe_callB (id := "len") (k_len (K := K) rfl) (by rfl) TX.b_len (by decide +kernel) (pa_cons (pv 0) pa_nil)) (pe_glob (v := .int (60)) (by rfl) TX.c_MOST_FLUSHES ⟨_, rfl⟩) (nomark _)))))
        (pss_one (ps_ret pe_bl))
        pss_nil)
      (pss_cons (ps_set (i := 1) sc_is_schedule.nd rfl (.inl rfl) pe_int)
      (pss_cons (ps_for PassesOwn.never rfl (k_piT (K := K) rfl (pv 0)) (pg_name (i := 2) sc_is_schedule.nd rfl (.inl rfl))
        (pss_cons (ps_if (pt_not (pt_val (pe_call (ok_is_count_up_to TX) (hr.mono (by decide)) (by rfl) TX.g_is_count_up_to TX.f_is_count_up_to.kp TX.bd_is_count_up_to .nil pass0 (pa_cons (pv 2) (pa_cons (pv 1) pa_nil)))))
          (pss_one (ps_ret pe_bl))
          pss_nil)
        (pss_one (ps_set (i := 1) sc_is_schedule.nd rfl (.inl rfl) (pe_op op_add (pe_op op_sub (pv 1) (pv 2)) pe_int)))))
      (pss_one (ps_ret pe_bl))))), ?_⟩
    obtain ⟨T, hT, hkT⟩ := tup_ty hq
    refine ⟨x, rfl, x, .ty "tuple", .type T, .type "tuple", isTup d, rfl, .ty _, hT, kit_ty hkT, isTup d, rfl, ?_⟩
    by_cases ht : isTup d = true
    rotate_left
    · have ht' : isTup d = false := by simpa using ht
      rw [ht']
      refine iteT ?_
      have e : isSchD d = false := by cases d <;> first | rfl | exact (ht rfl).elim
      rw [e] at q
      exact q
    rw [ht]
    refine iteF ?_
    cases hq with
    | @tupq a xs ds h1 hA =>
      have hl := hA.len
      refine ⟨.ref a, rfl, a, _, rfl, .inr h1, _, _, rfl, rfl, _, rfl, ?_⟩
      have e0 : isSchD (.tuple ds) = (decide (ds.length ≤ 60) && isSchR 0 ds) := rfl
      by_cases hlk : ds.length ≤ 60
      rotate_left
      · refine decT (by omega) ?_
        rw [e0, decide_eq_false hlk, Bool.false_and] at q
        exact q
      refine decF (by omega) ?_
      rw [e0, decide_eq_true hlk, Bool.true_and] at q
      refine ⟨.ref a, rfl, a, rfl, ⟨_, h1⟩, for_tup (K := K) (xs := xs) (fun i σ H' => H' = H ∧ ∃ (r : Nat) (y2 : Option V), σ = [some (.ref a), some (.int (r : Int)), y2] ∧ isSchR r (ds.drop i) = isSchR 0 ds) ⟨rfl, 0, none, rfl, rfl⟩ (fun i σ H' _ h => by rw [h.1]; exact h1) ?_ ?_⟩
      · rintro i x σ H' hx ⟨rfl, r, y2, rfl, hr⟩
        obtain ⟨e, he, hqe⟩ := hA.at hx
        have hi : i < ds.length := (List.getElem?_eq_some_iff.mp he).1
        have ed : ds.drop i = e :: ds.drop (i + 1) := by
          rw [List.drop_eq_getElem_cons hi]
          congr 1
          exact (List.getElem?_eq_some_iff.mp he).2
        rw [ed] at hr
        by_cases hn : NoInt e
        · have e2 : isSchR r (e :: ds.drop (i + 1)) = false := by cases e <;> first | rfl | exact hn.elim
          rw [e2] at hr
          rw [← hr] at q
          refine ⟨_, rfl, _, rfl, x, (r : Int), rfl, .inr ⟨notJ_of hqe hn, false, rfl, iteT q⟩⟩
        · cases hqe with
          | intq n =>
            have e2 : isSchR r (.int n :: ds.drop (i + 1)) = ((decide (0 ≤ n) && decide (n ≤ (r : Int))) && isSchR (r + 1 - n.toNat) (ds.drop (i + 1))) := rfl
            rw [e2] at hr
            by_cases hb : (decide (0 ≤ n) && decide (n ≤ (r : Int))) = true
            · rw [hb, Bool.true_and] at hr
              simp only [Bool.and_eq_true, decide_eq_true_eq] at hb
              refine ⟨_, rfl, _, rfl, .int n, (r : Int), rfl, .inl ⟨n, rfl, true, by rw [decide_eq_true hb.1, decide_eq_true hb.2]; rfl, iteF ⟨_, rfl, _, rfl, _, _, rfl, rfl, _, _, rfl, rfl, rfl, r + 1 - n.toNat, some (.int n), ?_, hr⟩⟩⟩
              show [_, _, _] = [_, _, _]
              have e3 : (r : Int) - n + 1 = ((r + 1 - n.toNat : Nat) : Int) := by omega
              rw [← e3]
            · have hb' : (decide (0 ≤ n) && decide (n ≤ (r : Int))) = false := by simpa using hb
              rw [hb', Bool.false_and] at hr
              rw [← hr] at q
              exact ⟨_, rfl, _, rfl, .int n, (r : Int), rfl, .inl ⟨n, rfl, false, by rw [hb'], iteT q⟩⟩
          | nonq => exact (hn trivial).elim
          | blq b => exact (hn trivial).elim
          | strq x => exact (hn trivial).elim
          | lstq _ _ _ => exact (hn trivial).elim
          | tupq _ _ => exact (hn trivial).elim
          | dctq _ _ _ => exact (hn trivial).elim
      · rintro σ H' ⟨rfl, r, y2, rfl, hr⟩
        rw [hl, List.drop_length] at hr
        have e2 : isSchR r [] = true := by unfold isSchR; rfl
        rw [e2] at hr
        rw [← hr] at q
        exact q
    | nonq => cases ht
    | blq b => cases ht
    | intq i => cases ht
    | strq x => cases ht
    | lstq _ _ _ => cases ht
    | dctq _ _ _ => cases ht
end
section
variable {P : Program} {w : World} {K : PySem.W.Frag} {mg : Str → Option Value} {base : Heap}
/-- a value that is no schedule is refused -/
def SchX (TX : Tx K mg) (x : V) (d : PyData) (H : Hp) (E : XK) : Prop := Dq K H x d ∧ isSchD d = false ∧ ∀ dd H', Same H H' → H' dd = some (.xd [("value", x)]) → E (.ref TX.c_InvalidSchedule) (some dd) H'
def sp_state_of (TX : Tx K mg) : Sp := fun vs H Q E => ∃ (x : V) (d : PyData), vs = [x] ∧ SchX TX x d H E
theorem ok_state_of (TX : Tx K mg) : FnOk P w K mg base (L2.CX P w) 5 TX.a_state_of TX.fd_state_of ["schedule"] (sp_state_of TX) := by
  refine TX.f_state_of.okX sc_state_of (fun vs H Q E h => ?_) (fun cdv A outer s H vs Q E hr h => ?_)
  · obtain ⟨x, d, rfl, _⟩ := h; rfl
  · obtain ⟨x, d, rfl, hq, hs, q⟩ := h
    refine ⟨_, (pss_stop (ps_if (pt_not (pt_val (pe_call (ok_is_schedule TX) (hr.mono (by decide)) (by rfl) TX.g_is_schedule TX.f_is_schedule.kp TX.bd_is_schedule .nil pass0 (pa_cons (pv 0) pa_nil))))
        (pss_one (ps_raise rfl takesX (pmk_oex TX.ox_InvalidSchedule TX.ic_InvalidSchedule TX.ti_InvalidSchedule (ok_init_InvalidSchedule TX) (hr.mono (by decide)) TX.bi_InvalidSchedule .nil pass0 (by rfl) TX.gc_InvalidSchedule (pa_cons (pv 0) pa_nil))))
        pss_nil)), ?_⟩
    refine ⟨_, rfl, x, d, rfl, hq, false, by rw [hs], iteT ?_⟩
    refine raise_read (K := K) ⟨x, rfl, x, rfl, fun dd H2 s2 _ hd => q dd H2 s2 hd⟩ fun R R' h z => ?_
    obtain ⟨v, e1, z⟩ := z
    exact ⟨v, e1, h _ _ z⟩
end
theorem u65 {k : Nat} {A : Around} (r : Room k A) : A.units + 65 < cLine := by have := r.un; omega
section
variable {P : Program} {w : World} {K : PySem.W.Frag} {mg : Str → Option Value} {base : Heap}
/-- what met makes of a call: the names of the five classes in their order -/
def metC (TX : Tx K mg) : List Addr := [TX.c_InvalidBudget, TX.c_InvalidState, TX.c_InvalidMerge, TX.c_InvalidCount, TX.c_InvalidSchedule]
def metN : List Str := ["budget", "levels", "taken", "count", "plan"]
def TMet (TX : Tx K mg) : (XK → Hp → VK → Prop) → Hp → VK → Prop := fun tl H Q => ∀ H1, Same H H1 → ∀ (E' : XK) (R : VK),
  (∀ (i : Nat) (C dd : Addr) (x : Str) (v : V) (H' : Hp), (metC TX)[i]? = some C → metN[i]? = some x → H' dd = some (.xd [("value", v)]) → (∀ H'' t, Same H' H'' → H'' t = some (.tup [.str x, v]) → Q (.ref t) H'') → E' (.ref C) (some dd) H') →
  (∀ (v : V) (H' : Hp), (∀ H'' t, Same H' H'' → H'' t = some (.tup [.str "returns", v]) → Q (.ref t) H'') → R v H') → tl E' H1 R
theorem exm_of (TX : Tx K mg) {C : Addr} (h : C ∈ metC TX) : PySem.W.exmOne K (.ref C) (.ref TX.c_MergeBudgetError) = some true := by
  have hm : C ∈ [TX.c_InvalidSchedule, TX.c_InvalidCount, TX.c_InvalidBudget, TX.c_InvalidState, TX.c_InvalidMerge] := by
    unfold metC at h
    simp only [List.mem_cons, List.not_mem_nil, or_false] at h ⊢
    rcases h with rfl | rfl | rfl | rfl | rfl <;> simp
  obtain ⟨_, k2, _⟩ := kitB_ok TX.kits hm
  have hne : C ≠ TX.c_MergeBudgetError := fun e => TX.kitz (by rw [← e]; exact hm)
  unfold PySem.W.exmOne
  rw [if_pos (by rw [TX.xf_MergeBudgetError.exC]; rfl)]
  unfold PySem.W.kitOne at k2
  rw [if_neg (fun z => hne (by have z2 : Value.ref C = Value.ref TX.c_MergeBudgetError := beq_iff_eq.mp z; cases z2; rfl))] at k2
  exact k2
theorem met_kit (TX : Tx K mg) {i j : Nat} {C D : Addr} (hi : (metC TX)[i]? = some C) (hj : (metC TX)[j]? = some D) : PySem.W.kitOne K (.ref C) (.ref D) = some (decide (i = j)) := by
  have mem : ∀ {C : Addr}, C ∈ metC TX → C ∈ [TX.c_InvalidSchedule, TX.c_InvalidCount, TX.c_InvalidBudget, TX.c_InvalidState, TX.c_InvalidMerge] := fun {C} h => by
    unfold metC at h
    simp only [List.mem_cons, List.not_mem_nil, or_false] at h ⊢
    rcases h with rfl | rfl | rfl | rfl | rfl <;> simp
  obtain ⟨k1, _, _⟩ := kitB_ok TX.kits (mem (List.mem_of_getElem? hi))
  rw [k1 D (mem (List.mem_of_getElem? hj))]
  have nd : (metC TX).Nodup := by
    have := TX.kitn
    unfold metC
    simp only [List.nodup_cons, List.mem_cons, List.not_mem_nil, or_false, not_or, not_false_eq_true, List.nodup_nil, and_true] at this ⊢
    obtain ⟨⟨a1, a2, a3, a4⟩, ⟨b1, b2, b3⟩, ⟨c1, c2⟩, d1⟩ := this
    simp only [ne_eq, Ne.symm a1, Ne.symm a2, Ne.symm a3, Ne.symm a4, Ne.symm b1, Ne.symm b2, Ne.symm b3, Ne.symm c1, Ne.symm c2, Ne.symm d1, a1, a2, a3, a4, b1, b2, b3, c1, c2, d1, not_false_eq_true, and_self]
  congr 1
  by_cases e : i = j
  · subst e
    rw [hi] at hj
    cases hj
    simp
  · have : C ≠ D := fun z => by
      subst z
      obtain ⟨q1, r1⟩ := List.getElem?_eq_some_iff.mp hi
      obtain ⟨q2, r2⟩ := List.getElem?_eq_some_iff.mp hj
      exact e ((List.getElem_inj nd).mp (r1.trans r2.symm))
    rw [decide_eq_false e]
    simpa using this
theorem met_exc (TX : Tx K mg) {C : Addr} (h : C ∈ metC TX) : ExcC K C ∧ XfC K C ∧ PySem.W.findIn K (.ref C) "value" = some none ∧ PySem.W.kitOne K (.ref C) (.type "ValueError") = some true := by
  have hm : C ∈ [TX.c_InvalidSchedule, TX.c_InvalidCount, TX.c_InvalidBudget, TX.c_InvalidState, TX.c_InvalidMerge] := by
    unfold metC at h
    simp only [List.mem_cons, List.not_mem_nil, or_false] at h ⊢
    rcases h with rfl | rfl | rfl | rfl | rfl <;> simp
  obtain ⟨_, _, k3⟩ := kitB_ok TX.kits hm
  unfold metC at h
  simp only [List.mem_cons, List.not_mem_nil, or_false] at h
  rcases h with rfl | rfl | rfl | rfl | rfl
  · exact ⟨TX.xe_InvalidBudget, TX.xf_InvalidBudget, TX.no_InvalidBudget, k3⟩
  · exact ⟨TX.xe_InvalidState, TX.xf_InvalidState, TX.no_InvalidState, k3⟩
  · exact ⟨TX.xe_InvalidMerge, TX.xf_InvalidMerge, TX.no_InvalidMerge, k3⟩
  · exact ⟨TX.xe_InvalidCount, TX.xf_InvalidCount, TX.no_InvalidCount, k3⟩
  · exact ⟨TX.xe_InvalidSchedule, TX.xf_InvalidSchedule, TX.no_InvalidSchedule, k3⟩
theorem met_gives (TX : Tx K mg) {cdv cdg : Value} {A : Around} {outer : List Env} {s0 : Shared} {H0 : Hp} {E : XK} {q : Str} {n : Nat} (hr0 : Room (n + 1) (cxOf CX0 P w K mg base N_law (Str.ofString "law") (defScope s_law) TX.a_law cdv A outer s0 H0 E).nox.A) :
    GivesE (cxOf CX0 P w K mg base N_law (Str.ofString "law") (defScope s_law) TX.a_law cdv A outer s0 H0 E).nox N_L_s5_met "_law_s5_met" (defScope s_L_s5_met) TX.a_L_s5_met cdg (defBody s_L_s5_met) "_law_call" q (TMet TX) := by
  intro f c' s H Q tl act hc h
  have hr := hr0.deeper (envOfC "_law_s5_met" (defScope s_L_s5_met) s.heap.objs.size TX.a_L_s5_met cdg)
  have HB : ∀ (p0 p1 p2 p3 : PySem.Pos) (W : WX) (pn : List (Addr × Obj)) (xe : Value → Shared → Prop), Takes ((cxOf CX0 P w K mg base N_L_s5_met "_law_s5_met" (defScope s_L_s5_met) TX.a_L_s5_met cdg (cxOf CX0 P w K mg base N_law (Str.ofString "law") (defScope s_law) TX.a_law cdv A outer s0 H0 E).nox.A (cxOf CX0 P w K mg base N_law (Str.ofString "law") (defScope s_law) TX.a_law cdv A outer s0 H0 E).nox.stack s H E0).nox.tr pn xe) W →
      PassesOwn (model P w) (cxOf CX0 P w K mg base N_L_s5_met "_law_s5_met" (defScope s_L_s5_met) TX.a_L_s5_met cdg (cxOf CX0 P w K mg base N_law (Str.ofString "law") (defScope s_law) TX.a_law cdv A outer s0 H0 E).nox.A (cxOf CX0 P w K mg base N_law (Str.ofString "law") (defScope s_law) TX.a_law cdv A outer s0 H0 E).nox.stack s H E0).nox.A (cxOf CX0 P w K mg base N_L_s5_met "_law_s5_met" (defScope s_L_s5_met) TX.a_L_s5_met cdg (cxOf CX0 P w K mg base N_law (Str.ofString "law") (defScope s_law) TX.a_law cdv A outer s0 H0 E).nox.A (cxOf CX0 P w K mg base N_law (Str.ofString "law") (defScope s_law) TX.a_law cdv A outer s0 H0 E).nox.stack s H E0).nox.env xe →
      PSs ((cxOf CX0 P w K mg base N_L_s5_met "_law_s5_met" (defScope s_L_s5_met) TX.a_L_s5_met cdg (cxOf CX0 P w K mg base N_law (Str.ofString "law") (defScope s_law) TX.a_law cdv A outer s0 H0 E).nox.A (cxOf CX0 P w K mg base N_law (Str.ofString "law") (defScope s_law) TX.a_law cdv A outer s0 H0 E).nox.stack s H E0).nox.tr pn xe) [.Assign [.Name "_law_result" p0] (.Call (.Name "_law_call" p1) [] [] p2) p3]
        (fun D σ H' => ∃ Ech : XK, (∀ cls d H'', Ech cls d H'' → W cls d σ H'') ∧ σ[0]? = some (some (.ref f)) ∧ H' c' = some (LamX.CodeO c' q) ∧ tl Ech H' fun v H'' => D.nx (σ.set 2 (some v)) H'') := fun p0 p1 p2 p3 W pn xe tk _ => by
    refine ⟨fun pins s' σ H' D I h' => ?_⟩
    obtain ⟨Ech, hW, h1, h2, h3⟩ := h'
    have hp := act W pn xe Ech p1 p2 tk
    have hq := pss_one (ps_set (i := 2) (pos' := p0) (pos := p3) sc_L_s5_met.nd rfl (.inl rfl) hp)
    exact hq.run pins s' σ H' D I ⟨h1, h2, hW, h3⟩
  refine ⟨_, (pss_cons (ps_asg (pe_tup (pa_cons pe_non (pa_cons pe_non pa_nil))) (pg_tup rfl (pgs_cons (pg_name (i := 1) sc_L_s5_met.nd rfl (.inl rfl)) (pgs_cons (pg_name (i := 2) sc_L_s5_met.nd rfl (.inl rfl)) pgs_nil))))
      (pss_cons (ps_try_kept (c := .ref TX.c_MergeBudgetError) (i := 3) rfl rfl sc_L_s5_met.nd rfl rfl ⟨by rfl, by decide, .inl TX.gc_MergeBudgetError⟩ (HB _ _ _ _) (fun _ _ _ _ _ _ _ => (pss_one (ps_set (i := 1) sc_L_s5_met.nd rfl (.inl rfl) (pv 3)))))
      (pss_cons (ps_if (pt_cmpR op_isN (pv 1) pe_non (nomark _))
        (pss_one (ps_ret (pe_tup (pa_cons pe_str (pa_cons (pv 2) pa_nil)))))
        pss_nil)
      (pss_cons (ps_set (i := 4) sc_L_s5_met.nd rfl (.inl rfl) (pe_lst (pa_cons (pe_callB (id := "isinstance") call_isX (by rfl) TX.b_isinstance (by decide +kernel) (pa_cons (pv 1) (pa_cons (pe_glob (v := .ref TX.c_InvalidBudget) (by rfl) TX.gc_InvalidBudget rfl) pa_nil))) (pa_cons (pe_callB (id := "isinstance") call_isX (by rfl) TX.b_isinstance (by decide +kernel) (pa_cons (pv 1) (pa_cons (pe_glob (v := .ref TX.c_InvalidState) (by rfl) TX.gc_InvalidState rfl) pa_nil))) (pa_cons (pe_callB (id := "isinstance") call_isX (by rfl) TX.b_isinstance (by decide +kernel) (pa_cons (pv 1) (pa_cons (pe_glob (v := .ref TX.c_InvalidMerge) (by rfl) TX.gc_InvalidMerge rfl) pa_nil))) pa_nil)))))
      (pss_cons (ps_set (i := 4) sc_L_s5_met.nd rfl (.inl rfl) (pe_op op_cat (pv 4) (pe_lst (pa_cons (pe_callB (id := "isinstance") call_isX (by rfl) TX.b_isinstance (by decide +kernel) (pa_cons (pv 1) (pa_cons (pe_glob (v := .ref TX.c_InvalidCount) (by rfl) TX.gc_InvalidCount rfl) pa_nil))) (pa_cons (pe_callB (id := "isinstance") call_isX (by rfl) TX.b_isinstance (by decide +kernel) (pa_cons (pv 1) (pa_cons (pe_glob (v := .ref TX.c_InvalidSchedule) (by rfl) TX.gc_InvalidSchedule rfl) pa_nil))) pa_nil)))))
      (pss_cons (ps_if (PW.pt (pw_or (pt_cmpR op_ne (pe_bm PySem.F.plainAttrs_list PySem.F.slot_list_count PySem.F.type_list_count (mt_countB (u65 hr)) (pv 4) (pa_cons pe_bl pa_nil)) pe_int (nomark _)) (pw_or1 (pt_not (pt_val (pe_callB (id := "isinstance") call_isX (by rfl) TX.b_isinstance (by decide +kernel) (pa_cons (pv 1) (pa_cons (pe_bltn (v := .ty "ValueError") (by rfl) TX.b_ValueError (by decide +kernel) rfl) pa_nil))))))))
        (pss_one (ps_ret (pe_tup (pa_cons pe_str (pa_cons pe_non pa_nil)))))
        pss_nil)
      (pss_one (ps_ret (pe_tup (pa_cons (pe_ix (k_ixL (K := K) rfl) (pe_lst (pa_cons pe_str (pa_cons pe_str (pa_cons pe_str (pa_cons pe_str (pa_cons pe_str pa_nil)))))) (pe_bm PySem.F.plainAttrs_list PySem.F.slot_list_index PySem.F.type_list_index mt_index (pv 4) (pa_cons pe_bl pa_nil)) (fun _ _ => rfl)) (pa_cons (pe_xv (pv 1)) pa_nil))))))))))), ?_⟩
  refine ⟨sz60 (by simp), fun t0 n0 => ⟨t0, _, rfl, .inl (.inl upd_same), rfl, _, _, rfl, _, _, rfl, rfl, ?_⟩⟩
  have z0 := same_upd (o := .tup [V.non, V.non]) n0
  refine ⟨fun cls d H' => ∃ (i : Nat) (C dd : Addr) (x : Str) (v : V), (metC TX)[i]? = some C ∧ metN[i]? = some x ∧ cls = .ref C ∧ d = some dd ∧ H' dd = some (.xd [("value", v)]) ∧ ∀ H'' t, Same H' H'' → H'' t = some (.tup [.str x, v]) → Q (.ref t) H'', ?_, rfl, z0 _ _ hc, h _ z0 _ _ (fun i C dd x v H' a1 a2 a3 a4 => ⟨i, C, dd, x, v, a1, a2, rfl, rfl, a3, a4⟩) fun v H' q => ?_⟩
  rotate_left
  · refine ⟨_, rfl, rfl, _, rfl, iteB1 (by rfl) ?_⟩
    refine ⟨_, rfl, sz60 (by simp), fun t1 n1 => q _ t1 (same_upd n1) upd_same⟩
  rintro cls d H' ⟨i, C, dd, x, v, hi, hx, rfl, rfl, hdd, q⟩
  have hmem := List.mem_of_getElem? hi
  obtain ⟨x1, x2, x3, x4⟩ := met_exc TX hmem
  refine ⟨exm_of TX hmem, fun a na => ⟨_, rfl, ?_⟩⟩
  have za := same_upd (o := KeO a (.ref C) (some dd)) na
  have hX : XAt (upd H' a (KeO a (.ref C) (some dd))) a C (some [("value", v)]) := .keptd upd_same (za _ _ hdd)
  refine ⟨_, rfl, rfl, _, rfl, iteB0 (by rfl) ?_⟩
  have kit := fun j D hj => met_kit TX (j := j) (D := D) hi hj
  have hi5 : i < 5 := (List.getElem?_eq_some_iff.mp hi).1
  refine ⟨_, rfl, a, C, _, _, _, decide (i = 0), rfl, .own _, hX, x1, kit 0 _ rfl, _, rfl, a, C, _, _, _, decide (i = 1), rfl, .own _, hX, x1, kit 1 _ rfl, _, rfl, a, C, _, _, _, decide (i = 2), rfl, .own _, hX, x1, kit 2 _ rfl, sz60 (by simp), fun l1 n1 => ?_⟩
  have z1 := same_upd (o := .lst [V.bl (decide (i = 0)), V.bl (decide (i = 1)), V.bl (decide (i = 2))]) n1
  have hX1 := hX.same z1
  refine ⟨_, rfl, _, rfl, a, C, _, _, _, decide (i = 3), rfl, .own _, hX1, x1, kit 3 _ rfl, _, rfl, a, C, _, _, _, decide (i = 4), rfl, .own _, hX1, x1, kit 4 _ rfl, sz60 (by simp), fun l2 n2 => ?_⟩
  have z2 := same_upd (o := .lst [V.bl (decide (i = 3)), V.bl (decide (i = 4))]) n2
  refine ⟨l1, l2, _, _, rfl, rfl, z2 _ _ upd_same, upd_same, sz60 (by simp), fun l3 n3 => ?_⟩
  obtain ⟨bs, hbs⟩ : ∃ bs : List Bool, bs = [decide (i = 0), decide (i = 1), decide (i = 2), decide (i = 3), decide (i = 4)] := ⟨_, rfl⟩
  have ebs : [V.bl (decide (i = 0)), V.bl (decide (i = 1)), V.bl (decide (i = 2))] ++ [V.bl (decide (i = 3)), V.bl (decide (i = 4))] = bs.map V.bl := by rw [hbs]; rfl
  rw [ebs]
  have z3 := same_upd (o := .lst (bs.map V.bl)) n3
  have s3 := (z1.trans z2).trans z3
  have hX3 := hX.same s3
  have hl3 : (upd (upd (upd (upd H' a (KeO a (.ref C) (some dd))) l1 (.lst [V.bl (decide (i = 0)), V.bl (decide (i = 1)), V.bl (decide (i = 2))])) l2 (.lst [V.bl (decide (i = 3)), V.bl (decide (i = 4))])) l3 (.lst (bs.map V.bl))) l3 = some (.lst (bs.map V.bl)) := upd_same
  have s03 := za.trans s3
  generalize upd (upd (upd (upd H' a _) l1 _) l2 _) l3 _ = G at *
  have hcount : bs.countP id = 1 := by
    rw [hbs]
    have h5 : i = 0 ∨ i = 1 ∨ i = 2 ∨ i = 3 ∨ i = 4 := by omega
    rcases h5 with rfl | rfl | rfl | rfl | rfl <;> rfl
  have hat : (bs.map V.bl)[i]? = some (V.bl true) := by
    rw [hbs]
    have h5 : i = 0 ∨ i = 1 ∨ i = 2 ∨ i = 3 ∨ i = 4 := by omega
    rcases h5 with rfl | rfl | rfl | rfl | rfl <;> rfl
  have hbef : ∀ (m : Nat) (z' : V), m < i → (bs.map V.bl)[m]? = some z' → eqV z' (.bl true) = false := fun m z' hm hz => by
    have e : (bs.map V.bl)[m]? = some (V.bl false) := by
      rw [hbs]
      have h5 : m = 0 ∨ m = 1 ∨ m = 2 ∨ m = 3 := by omega
      rcases h5 with rfl | rfl | rfl | rfl
      · show some (V.bl (decide (i = 0))) = _; rw [decide_eq_false (by omega)]
      · show some (V.bl (decide (i = 1))) = _; rw [decide_eq_false (by omega)]
      · show some (V.bl (decide (i = 2))) = _; rw [decide_eq_false (by omega)]
      · show some (V.bl (decide (i = 3))) = _; rw [decide_eq_false (by omega)]
    rw [e] at hz
    cases hz
    rfl
  have hfl : ∀ l : List Bool, (l.map V.bl).all flatV = true := fun l => by
    induction l with
    | nil => rfl
    | cons b l ih => simp only [List.map_cons, List.all_cons, ih, Bool.and_true]; rfl
  refine ⟨_, rfl, .inl ⟨rfl, _, .inl (.inl hl3)⟩, l3, bs, rfl, rfl, .inl (.inl hl3), rfl, _, rfl, iteB0 (by rw [hcount]; rfl) ?_⟩
  refine ⟨_, rfl, a, C, _, .ty "ValueError", .type "ValueError", true, rfl, .ty _, hX3, x1, x4, true, rfl, iteF ?_⟩
  refine ⟨sz60 (by simp), fun l4 n4 => ?_⟩
  have z4 := same_upd (o := .lst [V.str "budget", V.str "levels", V.str "taken", V.str "count", V.str "plan"]) n4
  have hx' : [V.str "budget", V.str "levels", V.str "taken", V.str "count", V.str "plan"][i]? = some (V.str x) := by
    unfold metN at hx
    have h5 : i = 0 ∨ i = 1 ∨ i = 2 ∨ i = 3 ∨ i = 4 := by omega
    rcases h5 with rfl | rfl | rfl | rfl | rfl <;> (cases hx; rfl)
  refine ⟨_, rfl, .inl ⟨rfl, _, .inl (.inl (z4 _ _ hl3))⟩, l3, _, .bl true, i, _, rfl, rfl, .inl (.inl (z4 _ _ hl3)), rfl, hfl bs, hat, rfl, hbef, l4, _, _, _, rfl, rfl, .inl (.inl upd_same), atI_nat hx', ?_⟩
  refine ⟨_, rfl, a, C, [("value", v)], v, rfl, hX3.same z4, x2, x3, rfl, sz60 (by simp), fun t1 n1 => ?_⟩
  exact q _ t1 ((s03.trans z4).trans (same_upd n1)) upd_same
end
section
variable {P : Program} {w : World} {K : PySem.W.Frag} {mg : Str → Option Value} {base : Heap}
/-- the context of the law's own body -/
abbrev lawX (P : Program) (w : World) (K : PySem.W.Frag) (mg : Str → Option Value) (base : Heap) (f : Addr) (cd : Value) (A : Around) (outer : List Env) (s : Shared) (H : Hp) (E : XK) : Cx := (cxOf CX0 P w K mg base N_law (Str.ofString "law") (defScope s_law) f cd A outer s H E).nox
theorem passLw {P : Program} {w : World} {K : PySem.W.Frag} {mg : Str → Option Value} {base : Heap} {f : Addr} {cd : Value} {A : Around} {outer : List Env} {s : Shared} {H : Hp} {E E' : XK} {A' : Around} {outer' : List Env} {s' : Shared} {H' : Hp} {scope : Scope} {f' c' : Addr} :
    Passes (L2.CX P w) (LamX.lamCx (lawX P w K mg base f cd A outer s H E) A' outer' s' H' E' scope f' c') E' := passL' (X := lawX P w K mg base f cd A outer s H E)
/-- met(lambda: body), within the law -/
theorem pe_met (TX : Tx K mg) {c Pt : Addr} {A : Around} {outer : List Env} {s0 : Shared} {H0 : Hp} {E0' : XK} {n : Nat} (TB : LamX.TabB base mg c Pt) (hr : Room (n + 2) (lawX P w K mg base TX.a_law (.ref c) A outer s0 H0 E0').A)
    {params : Arguments} {body : Expr} {scope : Scope} {t : XK → TE} {p lpos pos : PySem.Pos} (L : LamX.LamS (defScope s_law) scope) (hdef : defaultsOf params (lawX P w K mg base TX.a_law (.ref c) A outer s0 H0 E0').env = ([], []))
    (hbind : ∀ (q : Str) (cl : List (Str × Addr)) (pm cv ctv : Value), bindArgs (PySem.W.kla_fn "<lambda>" q params body scope cl pm cv ctv) ⟨[], []⟩ = pure [])
    (hbody : ∀ (A' : Around) (outer' : List Env) (s : Shared) (H : Hp) (E : XK) (f c' : Addr), Room n (A'.deeper (LamX.lamEnv (lawX P w K mg base TX.a_law (.ref c) A outer s0 H0 E0') scope s.heap.objs.size f c')) → PE (LamX.lamCx (lawX P w K mg base TX.a_law (.ref c) A outer s0 H0 E0') A' outer' s H E scope f c') body (t E)) :
    PE (lawX P w K mg base TX.a_law (.ref c) A outer s0 H0 E0') (.Call (.Name "_law_s5_met" p) [.Lambda params body scope lpos] [] pos) (LamX.tLam [(Pt, (lawX P w K mg base TX.a_law (.ref c) A outer s0 H0 E0').env.qual ++ "<lambda>")] (TMet TX) t) := by
  obtain ⟨oc, od, kV, doc, pm, an, cdm, ct, osl, efd, lkm, hcm⟩ := TX.f_L_s5_met.ex
  have hb := TX.bd_L_s5_met
  rw [efd] at hb lkm
  exact pe_lamE (by rfl) TX.g_L_s5_met TX.f_L_s5_met.kp lkm hcm hb sc_L_s5_met rfl (.inl rfl) (met_gives TX (n := n + 1) hr) TB rfl (List.mem_singleton.mpr rfl) (fun q hq _ => by rw [List.mem_singleton.mp hq]) hr L hdef hbind hbody
end
/-- all but the list at a stays, tables aside -/
def ButN (a : Addr) (H H' : Hp) : Prop := ∀ b o, b ≠ a → H b = some o → (∀ ps, o ≠ .tbl ps) → H' b = some o
theorem ButN.of {a : Addr} {H H' : Hp} (b : But a H H') : ButN a H H' := fun c o n e _ => b c o n e
theorem ButN.same {a : Addr} {H H' : Hp} (b : Same H H') : ButN a H H' := fun c o n e _ => b c o e
theorem ButN.ext {a : Addr} {H H' : Hp} (b : LamX.ExtN H H') : ButN a H H' := fun c o n e t => b c o e t
theorem ButN.trans {a : Addr} {H H1 H2 : Hp} (x : ButN a H H1) (y : ButN a H1 H2) : ButN a H H2 := fun c o n e t => y c o n (x c o n e t) t
theorem ButN.out {a : Addr} {H H1 H2 : Hp} (x : LamX.ExtN H H1) (y : ButN a H1 H2) (h : H a = none) : LamX.ExtN H H2 := fun c o e t => y c o (fun z => by rw [z, h] at e; cases e) (x c o e t) t
theorem Pot.ext {H H' : Hp} {a : Addr} {n : Int} (h : Pot H a n) (e : LamX.ExtN H H') : Pot H' a n := by
  obtain ⟨d, s, m, h1, r⟩ := h
  exact ⟨d, s, m, e _ _ h1 (fun _ z => nomatch z), r⟩
theorem Pot.tabs {T : List (Addr × Str)} {H H' : Hp} {a : Addr} {n : Int} (h : Pot H a n) (t : LamX.Tabs T H) (b : But a H H') : LamX.Tabs T H' := by
  obtain ⟨d, s, m, h1, r⟩ := h
  exact tabs_but t b h1
theorem off_butN {a : Addr} {H H' : Hp} (b : ButN a H H') : LamX.ExtN (off a H) (off a H') := fun c o e t => by
  by_cases h : c = a
  · unfold off at e; rw [if_pos h] at e; cases e
  · rw [off_at h] at e ⊢; exact b _ _ h e t
theorem ButN.tup {K : PySem.W.Frag} {a b : Addr} {H H' : Hp} {xs : List V} (s : ButN a H H') (n : b ≠ a) (h : SqT K H b xs) : SqT K H' b xs := by
  rcases h with (h | ⟨o, h⟩) | h
  · exact .inl (.inl (s _ _ n h fun _ z => nomatch z))
  · exact .inl (.inr ⟨o, s _ _ n h fun _ z => nomatch z⟩)
  · exact .inr h
theorem ButN.seq {K : PySem.W.Frag} {a b : Addr} {H H' : Hp} {xs : List V} (s : ButN a H H') (n : b ≠ a) (h : SqL K H b xs) : SqL K H' b xs := by
  rcases h with (h | ⟨o, h⟩) | h
  · exact .inl (.inl (s _ _ n h fun _ z => nomatch z))
  · exact .inl (.inr ⟨o, s _ _ n h fun _ z => nomatch z⟩)
  · exact .inr h
theorem ButN.out1 {a : Addr} {H H1 H2 : Hp} (x : LamX.ExtN H H1) (y : ButN a H1 H2) (h : H1 a = none) : LamX.ExtN H H2 := fun c o e t => y c o (fun z => by have := x c o e t; rw [z, h] at this; cases this) (x c o e t) t
theorem ButN.but {a : Addr} {H H1 H2 : Hp} (x : ButN a H H1) (y : But a H1 H2) : ButN a H H2 := x.trans (.of y)
section
variable {P : Program} {w : World} {K : PySem.W.Frag} {mg : Str → Option Value} {base : Heap}
theorem mxdef_read {K : PySem.W.Frag} {H : Hp} {p : Addr} {xs : List Nat} {Q : VK} (h : SqT K H p (vi xs)) (q : Q (.int ((mx xs : Nat) : Int)) H) : rMaxDef K [.ref p] [.int 0] H Q := by
  refine ⟨p, 0, ci xs, rfl, rfl, by rw [← vi_ci]; exact h, fun e => ?_, fun m r e => ?_⟩
  · have : xs = [] := by simpa [ci] using e
    subst this; exact q
  · cases xs with
    | nil => simp [ci] at e
    | cons x t =>
      simp only [ci, List.map_cons, List.cons.injEq] at e
      obtain ⟨rfl, rfl⟩ := e
      rw [mx_fold]; exact q
def sp_state_after (K : PySem.W.Frag) : Sp := fun vs H Q _ => ∃ (a : Addr) (st : List Nat) (m : Nat), vs = [.ref a, .int (m : Int)] ∧ SqT K H a (vi st) ∧ m ≤ st.length ∧ st.length ≤ 1000 ∧ ∀ H' p, Same H H' → SqT K H' p (vi (sa st m)) → Q (.ref p) H'
theorem ok_state_after (TX : Tx K mg) : FnOk P w K mg base CX0 1 TX.a_state_after TX.fd_state_after ["state", "merge"] (sp_state_after K) := by
  refine TX.f_state_after.ok sc_state_after (fun vs H Q E h => ?_) (fun cdv A outer s H vs Q E hr h => ?_)
  · obtain ⟨a, st, m, rfl, _⟩ := h; rfl
  · obtain ⟨a, st, m, rfl, hS, hm, hl, q⟩ := h
    refine ⟨_, (pss_cons (ps_set (i := 2) sc_state_after.nd rfl (.inl rfl) (pe_op op_sub (pe_callB (id := "len") (k_len (K := K) rfl) (by rfl) TX.b_len (by decide +kernel) (pa_cons (pv 0) pa_nil)) (pv 1)))
      (pss_one (ps_ret (pe_op (k_catT (K := K) rfl) (pe_slice (k_slT (K := K) rfl) (pv 0) po_none (po_some (pv 2))) (pe_tup (pa_cons (pe_op op_add pe_int (pe_callBK (id := "max") (cr_maxDef (K := K) rfl rfl hr.units) (by rfl) TX.b_max (by decide +kernel) (pa_cons (pe_slice (k_slT (K := K) rfl) (pv 0) (po_some (pv 2)) po_none) pa_nil) (pk_cons pe_int pk_nil))) pa_nil)))))), ?_⟩
    refine ⟨.ref a, rfl, a, _, rfl, .inr hS, _, rfl, _, _, rfl, rfl, ?_⟩
    have eK : ((vi st).length : Int) - (m : Int) = ((st.length - m : Nat) : Int) := by rw [vi_len]; omega
    dsimp only
    rw [eK]
    refine ⟨.ref a, rfl, _, rfl, _, rfl, sl_read hS fun c1 H1 s1 h1 => ?_⟩
    rw [cutV_to (by omega)] at h1
    refine ⟨.ref a, rfl, _, rfl, _, rfl, ?_⟩
    dsimp only [tNoPart]
    refine sl_read (Same.tup s1 hS) fun c2 H2 s2 h2 => ?_
    rw [cutV_from (by omega)] at h2
    dsimp only [tNil, tCons, tC]
    refine mxdef_read h2 ?_
    refine ⟨_, _, rfl, rfl, sz60 (by simp), fun t nt => ?_⟩
    have s3 := same_upd (o := .tup [V.int (1 + ((mx (st.drop (st.length - m)) : Nat) : Int))]) nt
    refine cat_read (Same.tup (s2.trans s3) h1) (.inl (.inl upd_same)) (by simp [vi]; omega) fun p H4 s4 h4 => q H4 p (s1.trans (s2.trans (s3.trans s4))) ?_
    unfold sa
    rw [vi_app]
    have e : vi [1 + mx (st.drop (st.length - m))] = [V.int (1 + ((mx (st.drop (st.length - m)) : Nat) : Int))] := by
      simp [vi]
    rw [e]; exact h4
end
section
variable {P : Program} {w : World} {K : PySem.W.Frag} {mg : Str → Option Value} {base : Heap}
/-- a schedule, with the number of runs before each flush -/
def SchR (p : List Nat) (r : Nat → Nat) : Prop := r 0 = 0 ∧ ∀ i m, p[i]? = some m → m ≤ r i ∧ r (i + 1) = r i - m + 1
def sp_is_scheduleN (K : PySem.W.Frag) : Sp := fun vs H Q _ => ∃ (a : Addr) (p : List Nat) (r : Nat → Nat), vs = [.ref a] ∧ SqT K H a (vi p) ∧ p.length ≤ 60 ∧ SchR p r ∧ Q (.bl true) H
theorem ok_is_scheduleN (TX : Tx K mg) : FnOk P w K mg base CX0 4 TX.a_is_schedule TX.fd_is_schedule ["value"] (sp_is_scheduleN K) := by
  refine TX.f_is_schedule.ok sc_is_schedule (fun vs H Q E h => ?_) (fun cdv A outer s H vs Q E hr h => ?_)
  · obtain ⟨a, p, r, rfl, _⟩ := h; rfl
  · obtain ⟨a, p, r, rfl, hS, hz, ⟨hr0, hr1⟩, q⟩ := h
    refine ⟨_, (pss_cons (ps_if (PW.pt (pw_or (pt_not (pt_val (pe_callB (id := "isinstance") (k_isi (K := K) rfl) (by rfl) TX.b_isinstance (by decide +kernel) (pa_cons (pv 0) (pa_cons (pe_bltn (v := .ty "tuple") (by rfl) TX.b_tuple (by decide +kernel) rfl) pa_nil))))) (pw_or1 (pt_cmpR op_gt (pe_callB (id := "len") (k_len (K := K) rfl) (by rfl) TX.b_len (by decide +kernel) (pa_cons (pv 0) pa_nil)) (pe_glob (v := .int (60)) (by rfl) TX.c_MOST_FLUSHES ⟨_, rfl⟩) (nomark _)))))
        (pss_one (ps_ret pe_bl))
        pss_nil)
      (pss_cons (ps_set (i := 1) sc_is_schedule.nd rfl (.inl rfl) pe_int)
      (pss_cons (ps_for PassesOwn.never rfl (k_piT (K := K) rfl (pv 0)) (pg_name (i := 2) sc_is_schedule.nd rfl (.inl rfl))
        (pss_cons (ps_if (pt_not (pt_val (pe_call (ok_is_count_up_toN TX) (hr.mono (by decide)) (by rfl) TX.g_is_count_up_to TX.f_is_count_up_to.kp TX.bd_is_count_up_to .nil pass0 (pa_cons (pv 2) (pa_cons (pv 1) pa_nil)))))
          (pss_one (ps_ret pe_bl))
          pss_nil)
        (pss_one (ps_set (i := 1) sc_is_schedule.nd rfl (.inl rfl) (pe_op op_add (pe_op op_sub (pv 1) (pv 2)) pe_int)))))
      (pss_one (ps_ret pe_bl))))), ?_⟩
    refine ⟨.ref a, rfl, .ref a, .ty "tuple", .type "tuple", .type "tuple", true, rfl, .ty _, ty_tup hS, kit_ty (by decide +kernel), true, rfl, iteF ⟨.ref a, rfl, a, _, rfl, .inr hS, _, _, rfl, rfl, _, rfl, decF (by rw [vi_len]; omega) ?_⟩⟩
    refine ⟨.ref a, rfl, a, rfl, ⟨_, hS⟩, for_tup (K := K) (xs := vi p) (fun i σ H' => H' = H ∧ ∃ y2, σ = [some (.ref a), some (.int (r i : Int)), y2]) ⟨rfl, none, by rw [hr0]; rfl⟩ (fun i σ H' _ h => by rw [h.1]; exact hS) ?_ ?_⟩
    · rintro i x σ H' hx ⟨rfl, y2, rfl⟩
      rw [vi, List.getElem?_map] at hx
      cases hc : p[i]? with
      | none => rw [hc] at hx; cases hx
      | some m =>
        rw [hc] at hx
        cases hx
        obtain ⟨h1, h2⟩ := hr1 i m hc
        refine ⟨_, rfl, _, rfl, _, _, rfl, true, by rw [decide_eq_true (by omega), decide_eq_true (by omega)]; rfl, iteF ⟨_, rfl, _, rfl, _, _, rfl, rfl, _, _, rfl, rfl, rfl, some (.int (m : Int)), ?_⟩⟩
        show [_, _, _] = [_, _, _]
        simp only [List.cons.injEq, Option.some.injEq, V.int.injEq, and_true, true_and]
        omega
    · rintro σ H' ⟨rfl, y2, rfl⟩
      exact q
def sp_state_ofN (K : PySem.W.Frag) : Sp := fun vs H Q _ => ∃ (a : Addr) (p : List Nat) (st : Nat → List Nat), vs = [.ref a] ∧ SqT K H a (vi p) ∧ p.length ≤ 60 ∧ st 0 = [] ∧ (∀ i m, p[i]? = some m → m ≤ (st i).length ∧ st (i + 1) = sa (st i) m) ∧ ∀ H' q, Same H H' → SqT K H' q (vi (st p.length)) → Q (.ref q) H'
theorem ok_state_ofN (TX : Tx K mg) : FnOk P w K mg base CX0 5 TX.a_state_of TX.fd_state_of ["schedule"] (sp_state_ofN K) := by
  refine TX.f_state_of.ok sc_state_of (fun vs H Q E h => ?_) (fun cdv A outer s H vs Q E hr h => ?_)
  · obtain ⟨a, p, st, rfl, _⟩ := h; rfl
  · obtain ⟨a, p, st, rfl, hS, hz, h0, h1, q⟩ := h
    refine ⟨_, (pss_cons (ps_if (pt_not (pt_val (pe_call (ok_is_scheduleN TX) (hr.mono (by decide)) (by rfl) TX.g_is_schedule TX.f_is_schedule.kp TX.bd_is_schedule .nil pass0 (pa_cons (pv 0) pa_nil))))
        (pss_one ps_never)
        pss_nil)
      (pss_cons (ps_set (i := 1) sc_state_of.nd rfl (.inl rfl) (pe_tup pa_nil))
      (pss_cons (ps_for PassesOwn.never rfl (k_piT (K := K) rfl (pv 0)) (pg_name (i := 2) sc_state_of.nd rfl (.inl rfl))
        (pss_one (ps_set (i := 1) sc_state_of.nd rfl (.inl rfl) (pe_call (ok_state_after TX) (hr.mono (by decide)) (by rfl) TX.g_state_after TX.f_state_after.kp TX.bd_state_after .nil pass0 (pa_cons (pv 1) (pa_cons (pv 2) pa_nil))))))
      (pss_one (ps_ret (pv 1)))))), ?_⟩
    have hlen : ∀ i, i ≤ p.length → (st i).length ≤ i := fun i => by
      induction i with
      | zero => intro _; rw [h0]; simp
      | succ i ih =>
        intro hi
        obtain ⟨a1, a2⟩ := h1 i _ (List.getElem?_eq_getElem (show i < p.length by omega))
        have := ih (by omega)
        rw [a2, sa_len a1]; omega
    refine ⟨.ref a, rfl, a, p, fun i => (st i).length, rfl, hS, hz, ⟨by simp [h0], fun i m hm => ?_⟩, true, rfl, iteF ?_⟩
    · obtain ⟨a1, a2⟩ := h1 i m hm
      exact ⟨a1, by dsimp only; rw [a2, sa_len a1]⟩
    · refine ⟨sz60 (by simp), fun t nt => ?_⟩
      have s1 := same_upd (o := .tup []) nt
      refine ⟨.ref a, rfl, a, rfl, ⟨_, Same.tup s1 hS⟩, for_tup (K := K) (xs := vi p) (fun i σ H' => Same H H' ∧ ∃ b y2, σ = [some (.ref a), some (.ref b), y2] ∧ SqT K H' b (vi (st i))) ⟨s1, t, none, rfl, by rw [h0]; exact .inl (.inl upd_same)⟩ (fun i σ H' _ h => Same.tup h.1 hS) ?_ ?_⟩
      · rintro i x σ H' hx ⟨s2, b, y2, rfl, hb⟩
        rw [vi, List.getElem?_map] at hx
        cases hc : p[i]? with
        | none => rw [hc] at hx; cases hx
        | some m =>
          rw [hc] at hx
          cases hx
          obtain ⟨a1, a2⟩ := h1 i m hc
          have hi : i < p.length := (List.getElem?_eq_some_iff.mp hc).1
          have := hlen i (by omega)
          exact ⟨.ref b, rfl, _, rfl, b, st i, m, rfl, hb, a1, by omega, fun H3 b3 s3 h3 => ⟨s2.trans s3, b3, _, rfl, by rw [a2]; exact h3⟩⟩
      · rintro σ H' ⟨s2, b, y2, rfl, hb⟩
        rw [vi_len] at hb
        exact ⟨.ref b, rfl, q _ _ s2 hb⟩
end
/-! ### counts by a simulation of the runs -/
/-- the dict of counts, its keys 0 .. n - 1 in their order -/
def kl (n : Nat) (f : Nat → Nat) : List (L2.Key × V) := (List.range n).map fun (j : Nat) => ((.inl (j : Int) : L2.Key), V.int (f j : Int))
theorem kl_len (n : Nat) (f : Nat → Nat) : (kl n f).length = n := by simp [kl]
theorem kl_succ (n : Nat) (f : Nat → Nat) : kl (n + 1) f = kl n f ++ [((.inl (n : Int) : L2.Key), V.int (f n : Int))] := by
  unfold kl
  rw [List.range_succ, List.map_append]
  rfl
theorem kl_congr {n : Nat} {f g : Nat → Nat} (h : ∀ j, j < n → f j = g j) : kl n f = kl n g := by
  unfold kl
  refine List.map_congr_left fun j hj => ?_
  rw [h j (List.mem_range.mp hj)]
theorem key_ne {m n : Nat} (h : m ≠ n) : ¬ ((.inl (m : Int) : L2.Key) = .inl (n : Int)) := fun e => h (by injection e with e; omega)
theorem kl_val (f : Nat → Nat) : ∀ (n m : Nat), valV (kl n f) (.inl (m : Int) : L2.Key) = if m < n then some (V.int (f m : Int)) else none
  | 0, m => by rw [if_neg (by omega)]; rfl
  | n + 1, m => by
    have h0 : valV (kl n f) (.inl (n : Int) : L2.Key) = none := by rw [kl_val f n n, if_neg (by omega)]
    rw [kl_succ, valV_snoc _ _ _ _ h0]
    by_cases e : m = n
    · subst e
      rw [if_pos rfl, if_pos (by omega)]
    · rw [if_neg (key_ne e), kl_val f n m]
      by_cases h : m < n
      · rw [if_pos h, if_pos (by omega)]
      · rw [if_neg h, if_neg (by omega)]
theorem kl_get {n m : Nat} (f : Nat → Nat) (h : m < n) : (kl n f)[m]? = some ((.inl (m : Int) : L2.Key), V.int (f m : Int)) := by
  unfold kl
  rw [List.getElem?_map, List.getElem?_range h]
  rfl
def bumps (f : Nat → Nat) (ms : List Nat) : Nat → Nat := fun j => f j + ms.count j
theorem bumps_nil (f : Nat → Nat) : bumps f [] = f := by funext j; simp [bumps]
theorem bumps_snoc (f : Nat → Nat) (ms : List Nat) (m : Nat) : bumps f (ms ++ [m]) = fun j => if j = m then bumps f ms m + 1 else bumps f ms j := by
  funext j
  unfold bumps
  rw [List.count_append]
  by_cases e : j = m
  · subst e
    rw [if_pos rfl]
    simp
    omega
  · rw [if_neg e]
    have : List.count j [m] = 0 := List.count_eq_zero.mpr (by simpa using e)
    omega
theorem kl_put_old {n m : Nat} {f : Nat → Nat} {v : Nat} (h : m < n) : putK (kl n f) (.inl (m : Int) : L2.Key) (V.int (v : Int)) = kl n (fun j => if j = m then v else f j) := by
  unfold putK
  rw [if_pos (by rw [valV_any, kl_val, if_pos h]; rfl)]
  unfold kl
  rw [List.map_map]
  refine List.map_congr_left fun j hj => ?_
  show (if ((.inl (j : Int) : L2.Key) = .inl (m : Int)) then ((.inl (j : Int) : L2.Key), V.int (v : Int)) else ((.inl (j : Int) : L2.Key), V.int (f j : Int))) = ((.inl (j : Int) : L2.Key), V.int (((if j = m then v else f j) : Nat) : Int))
  by_cases e : j = m
  · subst e
    rw [if_pos rfl, if_pos rfl]
  · rw [if_neg (key_ne e), if_neg e]
theorem kl_put_new {n : Nat} {f : Nat → Nat} {v : Nat} : putK (kl n f) (.inl (n : Int) : L2.Key) (V.int (v : Int)) = kl (n + 1) (fun j => if j = n then v else f j) := by
  rw [putK_new _ (by rw [kl_val, if_neg (by omega)]), kl_succ, if_pos rfl]
  congr 1
  refine kl_congr fun j hj => ?_
  rw [if_neg (by omega)]
/-- a run's greatest count -/
def lev (f : Nat → Nat) (r : List Nat) : Nat := mx (r.map f)
/-- the runs as lists of flushes, how often each flush's data has been written, and the state -/
structure Prof (i : Nat) (R : List (List Nat)) (f : Nat → Nat) (s : List Nat) : Prop where
  cnt : ∀ j, R.flatten.count j = if j < i then 1 else 0
  lv : s = R.map (lev f)
  ne : ∀ r, r ∈ R → r ≠ []
  new : ∀ j, i ≤ j → f j = 0
  len : R.flatten.length = i
theorem Prof.zero : Prof 0 [] (fun _ => 0) [] := ⟨fun j => by simp, rfl, fun r h => (nomatch h), fun _ _ => rfl, rfl⟩
theorem Prof.rl {i : Nat} {R : List (List Nat)} {f : Nat → Nat} {s : List Nat} (h : Prof i R f s) : R.length = s.length := by rw [h.lv, List.length_map]
theorem Prof.lt {i : Nat} {R : List (List Nat)} {f : Nat → Nat} {s : List Nat} (h : Prof i R f s) {r : List Nat} {j : Nat} (hr : r ∈ R) (hj : j ∈ r) : j < i := by
  have h0 : j ∈ R.flatten := List.mem_flatten.mpr ⟨r, hr, hj⟩
  have h1 := List.count_pos_iff.mpr h0
  rw [h.cnt] at h1
  split at h1 <;> omega
theorem count_rev (j : Nat) : ∀ l : List (List Nat), l.reverse.flatten.count j = l.flatten.count j
  | [] => rfl
  | x :: l => by
    rw [List.reverse_cons, List.flatten_append, List.count_append, count_rev j l]
    simp only [List.flatten_cons, List.flatten_nil, List.append_nil, List.count_append]
    omega
theorem len_rev : ∀ l : List (List Nat), l.reverse.flatten.length = l.flatten.length
  | [] => rfl
  | x :: l => by
    rw [List.reverse_cons, List.flatten_append, List.length_append, len_rev l]
    simp only [List.flatten_cons, List.flatten_nil, List.append_nil, List.length_append]
    omega
theorem mem_rev {j : Nat} {l : List (List Nat)} : j ∈ l.reverse.flatten ↔ j ∈ l.flatten := by
  simp only [List.mem_flatten, List.mem_reverse]
theorem len_in : ∀ {R : List (List Nat)} {r : List Nat}, r ∈ R → r.length ≤ R.flatten.length
  | x :: R, r, h => by
    rw [List.flatten_cons, List.length_append]
    rcases List.mem_cons.mp h with e | h
    · rw [e]; omega
    · have := len_in h; omega
theorem len_le : ∀ {R : List (List Nat)}, (∀ r, r ∈ R → r ≠ []) → R.length ≤ R.flatten.length
  | [], _ => Nat.zero_le _
  | x :: R, h => by
    have h1 := len_le (R := R) fun r hr => h r (List.mem_cons_of_mem _ hr)
    have h2 : x ≠ [] := h x (List.mem_cons_self ..)
    have h3 : 0 < x.length := List.length_pos_iff.mpr h2
    rw [List.flatten_cons, List.length_append, List.length_cons]
    omega
/-- the run that flush i writes out of the runs l -/
def mrg (l : List (List Nat)) (i : Nat) : List Nat := l.reverse.flatten ++ [i]
theorem mrg_succ {l : List (List Nat)} {t : Nat} {x : List Nat} (i : Nat) (h : l[t]? = some x) : mrg (l.take (t + 1)) i = x ++ mrg (l.take t) i := by
  unfold mrg
  rw [List.take_add_one, h]
  show (l.take t ++ [x]).reverse.flatten ++ [i] = _
  rw [List.reverse_append]
  simp
theorem Prof.step {i m : Nat} {R : List (List Nat)} {f : Nat → Nat} {s : List Nat} (h : Prof i R f s) (hm : m ≤ R.length) :
    Prof (i + 1) (R.take (R.length - m) ++ [mrg (R.drop (R.length - m)) i]) (bumps f (mrg (R.drop (R.length - m)) i)) (sa s m) := by
  have hR := h.rl
  have hs := h.lv
  have hcut : R = R.take (R.length - m) ++ R.drop (R.length - m) := (List.take_append_drop _ _).symm
  obtain ⟨A, hA⟩ : ∃ A, A = R.take (R.length - m) := ⟨_, rfl⟩
  obtain ⟨B, hB⟩ : ∃ B, B = R.drop (R.length - m) := ⟨_, rfl⟩
  rw [← hA, ← hB] at hcut
  rw [← hA, ← hB]
  have cAB : ∀ j, A.flatten.count j + B.flatten.count j = if j < i then 1 else 0 := fun j => by
    have := h.cnt j
    rw [hcut, List.flatten_append, List.count_append] at this
    exact this
  have cM : ∀ j, (mrg B i).count j = B.flatten.count j + if j = i then 1 else 0 := fun j => by
    unfold mrg
    rw [List.count_append, count_rev]
    by_cases e : j = i
    · subst e; simp
    · rw [if_neg e]
      have : List.count j [i] = 0 := List.count_eq_zero.mpr (by simpa using e)
      omega
  have hBi : ∀ r, r ∈ B → ∀ j, j ∈ r → j < i := fun r hr j hj => h.lt (r := r) (by rw [hcut]; exact List.mem_append_right _ hr) hj
  have hAi : ∀ r, r ∈ A → ∀ j, j ∈ r → j < i := fun r hr j hj => h.lt (r := r) (by rw [hcut]; exact List.mem_append_left _ hr) hj
  refine ⟨fun j => ?_, ?_, fun r hr => ?_, fun j hj => ?_, ?_⟩
  · rw [List.flatten_append, List.count_append]
    have h1 := cAB j
    have h2 := cM j
    simp only [List.flatten_cons, List.flatten_nil, List.append_nil]
    rw [h2]
    by_cases e : j = i
    · subst e
      rw [if_neg (by omega)] at h1
      rw [if_pos rfl, if_pos (by omega)]; omega
    · rw [if_neg e]
      by_cases l : j < i
      · rw [if_pos l] at h1; rw [if_pos (by omega)]; omega
      · rw [if_neg l] at h1; rw [if_neg (by omega)]; omega
  · -- the levels
    have hsl : s.length - m = R.length - m := by omega
    have e1 : s.take (s.length - m) = A.map (lev f) := by rw [hsl, hs, ← List.map_take, ← hA]
    have e2 : s.drop (s.length - m) = B.map (lev f) := by rw [hsl, hs, ← List.map_drop, ← hB]
    unfold sa
    rw [e1, e2, List.map_append]
    congr 1
    · refine List.map_congr_left fun r hr => ?_
      unfold lev
      congr 1
      refine List.map_congr_left fun j hj => ?_
      have hji := hAi r hr j hj
      have h1 := cAB j
      rw [if_pos hji] at h1
      have h2 : 0 < A.flatten.count j := List.count_pos_iff.mpr (List.mem_flatten.mpr ⟨r, hr, hj⟩)
      have h3 := cM j
      rw [if_neg (by omega)] at h3
      unfold bumps
      omega
    · show [1 + mx (B.map (lev f))] = [lev (bumps f (mrg B i)) (mrg B i)]
      congr 1
      have bB : ∀ r, r ∈ B → ∀ j, j ∈ r → bumps f (mrg B i) j = f j + 1 := fun r hr j hj => by
        have hji := hBi r hr j hj
        have h1 := cAB j
        rw [if_pos hji] at h1
        have h2 : 0 < B.flatten.count j := List.count_pos_iff.mpr (List.mem_flatten.mpr ⟨r, hr, hj⟩)
        have h3 := cM j
        rw [if_neg (by omega)] at h3
        unfold bumps
        omega
      have bi : bumps f (mrg B i) i = 1 := by
        have h1 := cAB i
        rw [if_neg (by omega)] at h1
        have h3 := cM i
        rw [if_pos rfl] at h3
        have := h.new i (Nat.le_refl _)
        unfold bumps
        omega
      have hi : 1 ≤ lev (bumps f (mrg B i)) (mrg B i) := by
        rw [← bi]
        exact mx_mem (List.mem_map.mpr ⟨i, by unfold mrg; simp, rfl⟩)
      refine Nat.le_antisymm ?_ ?_
      · have h1 : mx (B.map (lev f)) ≤ lev (bumps f (mrg B i)) (mrg B i) - 1 := mx_le fun x hx => by
          obtain ⟨r, hr, rfl⟩ := List.mem_map.mp hx
          refine mx_le fun y hy => ?_
          obtain ⟨j, hj, rfl⟩ := List.mem_map.mp hy
          have h2 : bumps f (mrg B i) j ≤ lev (bumps f (mrg B i)) (mrg B i) := mx_mem (List.mem_map.mpr ⟨j, by unfold mrg; exact List.mem_append_left _ (mem_rev.mpr (List.mem_flatten.mpr ⟨r, hr, hj⟩)), rfl⟩)
          rw [bB r hr j hj] at h2
          omega
        omega
      · refine mx_le fun x hx => ?_
        obtain ⟨j, hj, rfl⟩ := List.mem_map.mp hx
        unfold mrg at hj
        rcases List.mem_append.mp hj with hj | hj
        · obtain ⟨r, hr, hj⟩ := List.mem_flatten.mp (mem_rev.mp hj)
          rw [bB r hr j hj]
          have h1 : f j ≤ lev f r := mx_mem (List.mem_map.mpr ⟨j, hj, rfl⟩)
          have h2 : lev f r ≤ mx (B.map (lev f)) := mx_mem (List.mem_map.mpr ⟨r, hr, rfl⟩)
          omega
        · have e : j = i := by simpa using hj
          rw [e, bi]; omega
  · rcases List.mem_append.mp hr with hr | hr
    · exact h.ne r (by rw [hcut]; exact List.mem_append_left _ hr)
    · have e : r = mrg B i := by simpa using hr
      rw [e]; unfold mrg; simp
  · have h0 := h.new j (by omega)
    have h1 := cAB j
    rw [if_neg (by omega)] at h1
    have h3 := cM j
    rw [if_neg (by omega)] at h3
    unfold bumps
    omega
  · have := h.len
    rw [hcut, List.flatten_append, List.length_append] at this
    rw [List.flatten_append, List.length_append]
    simp only [List.flatten_cons, List.flatten_nil, List.append_nil]
    unfold mrg
    rw [List.length_append, len_rev]
    simp only [List.length_cons, List.length_nil]
    omega
theorem Prof.top {i : Nat} {R : List (List Nat)} {f : Nat → Nat} {s : List Nat} (h : Prof i R f s) : mx ((List.range i).map f) = mx s := by
  rw [h.lv]
  refine Nat.le_antisymm (mx_le fun x hx => ?_) (mx_le fun x hx => ?_)
  · obtain ⟨j, hj, rfl⟩ := List.mem_map.mp hx
    have hj := List.mem_range.mp hj
    have h1 := h.cnt j
    rw [if_pos hj] at h1
    obtain ⟨r, hr, hjr⟩ := List.mem_flatten.mp (List.count_pos_iff.mp (by omega : 0 < R.flatten.count j))
    have h2 : f j ≤ lev f r := mx_mem (List.mem_map.mpr ⟨j, hjr, rfl⟩)
    have h3 : lev f r ≤ mx (R.map (lev f)) := mx_mem (List.mem_map.mpr ⟨r, hr, rfl⟩)
    omega
  · obtain ⟨r, hr, rfl⟩ := List.mem_map.mp hx
    refine mx_le fun y hy => ?_
    obtain ⟨j, hj, rfl⟩ := List.mem_map.mp hy
    exact mx_mem (List.mem_map.mpr ⟨j, List.mem_range.mpr (h.lt hr hj), rfl⟩)
theorem mx_of {xs : List Nat} {m : Int} (h1 : m ∈ ci xs) (h2 : ∀ y, y ∈ ci xs → y ≤ m) : m = ((mx xs : Nat) : Int) := by
  obtain ⟨x, hx, rfl⟩ := List.mem_map.mp h1
  have a := mx_mem hx
  have b : mx xs ≤ x := mx_le fun y hy => by
    have := h2 (y : Int) (List.mem_map.mpr ⟨y, hy, rfl⟩)
    omega
  omega
/-- lists stay, the one at F aside -/
def LK (F : Addr) (G G' : Hp) : Prop := ∀ b xs, b ≠ F → G b = some (.lst xs) → G' b = some (.lst xs)
theorem LK.same {F : Addr} {G G' : Hp} (s : Same G G') : LK F G G' := fun b _ _ e => s b _ e
theorem LK.trans {F : Addr} {G G1 G2 : Hp} (a : LK F G G1) (b : LK F G1 G2) : LK F G G2 := fun c xs n e => b c xs n (a c xs n e)
theorem LK.dK {F D : Addr} {G : Hp} {kvs kvs' : List (L2.Key × V)} (h : G D = some (.dK kvs)) : LK F G (L2.upd G D (.dK kvs')) := fun b xs _ e => by
  rw [upd_ne (fun z => by rw [z, h] at e; cases e)]; exact e
theorem LK.upd {F : Addr} {G : Hp} {o : HO} : LK F G (L2.upd G F o) := fun b xs n e => by rw [upd_ne n]; exact e
theorem keep_dK {K : PySem.W.Frag} {D : Addr} {G : Hp} {kvs : List (L2.Key × V)} {o : HO} (h : G D = some (.dK kvs)) : Keep K G (L2.upd G D o) := fun a xs e => by
  rcases e with (e | ⟨u, e⟩) | e
  · exact .inl (.inl (by rw [upd_ne (fun z => by rw [z, h] at e; cases e)]; exact e))
  · exact .inl (.inr ⟨u, by rw [upd_ne (fun z => by rw [z, h] at e; cases e)]; exact e⟩)
  · exact .inr e
/-- runs as lists, none of them at F -/
inductive RunsL (G : Hp) (F : Addr) : List V → List (List Nat) → Prop
  | nil : RunsL G F [] []
  | cons {r : Addr} {x : List Nat} {vs : List V} {l : List (List Nat)} : G r = some (.lst (vi x)) → r ≠ F → RunsL G F vs l → RunsL G F (.ref r :: vs) (x :: l)
theorem RunsL.len {G : Hp} {F : Addr} : ∀ {vs : List V} {l : List (List Nat)}, RunsL G F vs l → vs.length = l.length
  | _, _, .nil => rfl
  | _, _, .cons _ _ b => by simp [RunsL.len b]
theorem RunsL.mono {G G' : Hp} {F : Addr} (s : LK F G G') : ∀ {vs : List V} {l : List (List Nat)}, RunsL G F vs l → RunsL G' F vs l
  | _, _, .nil => .nil
  | _, _, .cons a n b => .cons (s _ _ n a) n (RunsL.mono s b)
theorem RunsL.take {G : Hp} {F : Addr} : ∀ {vs : List V} {l : List (List Nat)} (n : Nat), RunsL G F vs l → RunsL G F (vs.take n) (l.take n)
  | _, _, 0, _ => .nil
  | _, _, _ + 1, .nil => .nil
  | _, _, n + 1, .cons a m b => .cons a m (RunsL.take n b)
theorem RunsL.drop {G : Hp} {F : Addr} : ∀ {vs : List V} {l : List (List Nat)} (n : Nat), RunsL G F vs l → RunsL G F (vs.drop n) (l.drop n)
  | _, _, 0, h => h
  | _, _, _ + 1, .nil => .nil
  | _, _, n + 1, .cons a m b => RunsL.drop n b
theorem RunsL.add {G : Hp} {F r : Addr} {x : List Nat} (h : G r = some (.lst (vi x))) (n : r ≠ F) : ∀ {vs : List V} {l : List (List Nat)}, RunsL G F vs l → RunsL G F (vs ++ [.ref r]) (l ++ [x])
  | _, _, .nil => .cons h n .nil
  | _, _, .cons a m b => .cons a m (RunsL.add h n b)
theorem RunsL.get {G : Hp} {F : Addr} : ∀ {vs : List V} {l : List (List Nat)}, RunsL G F vs l → ∀ {t : Nat} {v : V}, vs[t]? = some v → ∃ r x, v = .ref r ∧ l[t]? = some x ∧ G r = some (.lst (vi x)) ∧ r ≠ F
  | _, _, .nil, t, v, h => by simp at h
  | _, _, .cons (r := r) (x := x) a n b, 0, v, h => by
    simp at h; subst h
    exact ⟨r, x, rfl, rfl, a, n⟩
  | _, _, .cons a n b, t + 1, v, h => by
    obtain ⟨r, x, h1, h2, h3⟩ := RunsL.get b (t := t) (v := v) (by simpa using h)
    exact ⟨r, x, h1, by simpa using h2, h3⟩
/-- what a profile says of the first n flushes -/
def dPf (st : Nat → List Nat) (n : Nat) : List PyData := (List.range n).map fun i => PyData.tuple [.int ((mx (st (i + 1)) : Nat) : Int), .int (((st (i + 1)).length : Nat) : Int)]
theorem dPf_len (st : Nat → List Nat) (n : Nat) : (dPf st n).length = n := by simp [dPf]
theorem dPf_succ (st : Nat → List Nat) (n : Nat) : dPf st (n + 1) = dPf st n ++ [PyData.tuple [.int ((mx (st (n + 1)) : Nat) : Int), .int (((st (n + 1)).length : Nat) : Int)]] := by
  unfold dPf
  rw [List.range_succ, List.map_append]; rfl
theorem dPf_at {st : Nat → List Nat} {n i : Nat} (h : i < n) : (dPf st n)[i]? = some (PyData.tuple [.int ((mx (st (i + 1)) : Nat) : Int), .int (((st (i + 1)).length : Nat) : Int)]) := by
  unfold dPf
  rw [List.getElem?_map, List.getElem?_range h]; rfl
theorem dPf_tf (st : Nat → List Nat) (n : Nat) : ∀ d, d ∈ dPf st n → Tf d := fun d h => by
  obtain ⟨i, _, rfl⟩ := List.mem_map.mp h
  refine .tup fun d hd => ?_
  simp only [List.mem_cons, List.not_mem_nil, or_false] at hd
  rcases hd with rfl | rfl <;> exact .int _
/-- the states behind a schedule's flushes -/
def StS (p : List Nat) (st : Nat → List Nat) : Prop := st 0 = [] ∧ ∀ i m, p[i]? = some m → m ≤ (st i).length ∧ st (i + 1) = sa (st i) m
theorem StS.len {p : List Nat} {st : Nat → List Nat} (h : StS p st) : ∀ i, i ≤ p.length → (st i).length ≤ i := fun i => by
  induction i with
  | zero => intro _; rw [h.1]; simp
  | succ i ih =>
    intro hi
    obtain ⟨a1, a2⟩ := h.2 i _ (List.getElem?_eq_getElem (show i < p.length by omega))
    have := ih (by omega)
    rw [a2, sa_len a1]; omega
abbrev NSC_L_s5_state_of : Scope := { kind := ScopeKind.function, names := [(Str.ofString ".0", NameKind.local), (Str.ofString "_law_run", NameKind.local), (Str.ofString "max", NameKind.globalImplicit), (Str.ofString "_law_counts", NameKind.cell)], isGenerator := false, isCoroutine := false }
theorem k_max {X : Cx} {K : PySem.W.Frag} (e : X.K = K) (hc : X.calm = true) : CallR X (.builtin "max") (rMax K) := by
  subst e
  exact cr_max hc
section
variable {P : Program} {w : World} {K : PySem.W.Frag} {mg : Str → Option Value} {base : Heap}
def sp_L_s5_state_of (K : PySem.W.Frag) : Sp := fun vs H Q _ => ∃ (a : Addr) (p : List Nat) (st : Nat → List Nat), vs = [.ref a] ∧ SqT K H a (vi p) ∧ p.length ≤ 100 ∧ StS p st ∧ ∀ H' q, Same H H' → SqT K H' q (vi (st p.length)) → Q (.ref q) H'
theorem ok_L_s5_state_of (TX : Tx K mg) : FnOk P w K mg base CX0 1 TX.a_L_s5_state_of TX.fd_L_s5_state_of ["_law_plan"] (sp_L_s5_state_of K) := by
  refine TX.f_L_s5_state_of.ok sc_L_s5_state_of (fun vs H Q E h => ?_) (fun cdv A outer s H vs Q E hr h => ?_)
  · obtain ⟨a, p, st, rfl, _⟩ := h; rfl
  · obtain ⟨a, p, st, rfl, hS, hz, hst, q⟩ := h
    refine ⟨_, (pss_cons (ps_asg (pe_tup (pa_cons (pe_lst pa_nil) (pa_cons pe_dnewK pa_nil))) (pg_tup rfl (pgs_cons (pg_name (i := 1) sc_L_s5_state_of.nd rfl (.inl rfl)) (pgs_cons (pg_name (i := 2) sc_L_s5_state_of.nd rfl (.inr rfl)) pgs_nil))))
      (pss_cons (ps_for PassesOwn.never rfl (pi_enumT (by rfl) TX.b_enumerate (pa_cons (pv 0) pa_nil)) (pg_tup rfl (pgs_cons (pg_name (i := 3) sc_L_s5_state_of.nd rfl (.inl rfl)) (pgs_cons (pg_name (i := 4) sc_L_s5_state_of.nd rfl (.inl rfl)) pgs_nil)))
        (pss_cons (ps_set (i := 5) sc_L_s5_state_of.nd rfl (.inl rfl) (pe_lst (pa_cons (pv 3) pa_nil)))
        (pss_cons (ps_for PassesOwn.never rfl (k_piL (K := K) rfl (pe_slice sl_list (pv 1) (po_some (pe_op op_sub (pe_callB (id := "len") (k_len (K := K) rfl) (by rfl) TX.b_len (by decide +kernel) (pa_cons (pv 1) pa_nil)) (pv 4))) po_none)) (pg_name (i := 6) sc_L_s5_state_of.nd rfl (.inl rfl))
          (pss_one (ps_set (i := 5) sc_L_s5_state_of.nd rfl (.inl rfl) (pe_op op_cat (pv 6) (pv 5)))))
        (pss_cons (ps_for PassesOwn.never rfl (k_piL (K := K) rfl (pv 5)) (pg_name (i := 7) sc_L_s5_state_of.nd rfl (.inl rfl))
          (pss_one (ps_dput (hu_of hr) (pv 2) (pv 7) (pe_op op_add (pe_dget2 (hu_of hr) (pv 2) (pv 7) pe_int ⟨by rfl, by rfl, by rfl, by rfl⟩) pe_int) (by rfl))))
        (pss_one (ps_set (i := 1) sc_L_s5_state_of.nd rfl (.inl rfl) (pe_op op_cat (pe_slice sl_list (pv 1) po_none (po_some (pe_op op_sub (pe_callB (id := "len") (k_len (K := K) rfl) (by rfl) TX.b_len (by decide +kernel) (pa_cons (pv 1) pa_nil)) (pv 4)))) (pe_lst (pa_cons (pv 5) pa_nil)))))))))
      (pss_one (ps_ret (pe_callTy (T := "tuple") (k_tupOf (K := K) rfl) (by rfl) TX.b_tuple (by decide +kernel) (pa_cons (pe_lc (own := [("_law_run", 6)]) (by rfl) sc_L_s5_state_of.nd (k_piL (K := K) rfl (pv 1)) (blkOk_by (own := [("_law_run", 6)]) (N := N_L_s5_state_of) (sc := defScope s_L_s5_state_of) (by decide +kernel)) (fun _ _ _ _ _ => (pg_name (i := 6) sc_L_s5_state_of.nd rfl (Or.inl rfl))) (fun _ _ _ _ _ => pts_nil) (fun _ _ _ _ _ => (pe_callB (id := "max") (k_max (K := K) rfl rfl) (by rfl) TX.b_max (by decide +kernel) (pa_cons (pe_lc (own := [("_law_member", 7)]) (by rfl) sc_L_s5_state_of.nd (k_piL (K := K) rfl (pv 6)) (blkOk_by (own := [("_law_member", 7)]) (N := N_L_s5_state_of) (sc := NSC_L_s5_state_of) (by decide +kernel)) (fun _ _ _ _ _ => (pg_name (i := 7) sc_L_s5_state_of.nd rfl (Or.inl rfl))) (fun _ _ _ _ _ => pts_nil) (fun _ _ _ _ _ => (pe_dget (hu_of hr) (pv 2) (pv 7) (fun _ _ => rfl)))) pa_nil)))) pa_nil)))))), ?_⟩
    refine ⟨sz60 (by simp), fun p0 n0 => fun D nD => ⟨sz60 (by simp), fun T nT => ⟨T, _, rfl, .inl (.inl upd_same), rfl, _, _, rfl, _, _, rfl, rfl, ?_⟩⟩⟩
    have s0 := same_upd (o := .lst []) n0
    have s1 := same_upd (o := .dK []) nD
    have s3 := same_upd (o := .tup [V.ref p0, V.ref D]) nT
    have nDH : H D = none := s0.free nD
    have hp0 : (upd (upd (upd H p0 (.lst [])) D (.dK [])) T (.tup [V.ref p0, V.ref D])) p0 = some (.lst []) := s3 _ _ (s1 _ _ upd_same)
    have hD0 : (upd (upd (upd H p0 (.lst [])) D (.dK [])) T (.tup [V.ref p0, V.ref D])) D = some (.dK []) := s3 _ _ upd_same
    have s03 := s0.trans (s1.trans s3)
    generalize upd (upd (upd H p0 (.lst [])) D (.dK [])) T (.tup [V.ref p0, V.ref D]) = H0 at *
    clear s0 s1 s3 nD nT n0
    refine ⟨.ref a, rfl, a, _, rfl, Same.tup s03 hS, for_it walk_enumT (fun i σ H' => ∃ (y3 y4 y5 y6 y7 : Option V) (b : Addr) (vs : List V) (R : List (List Nat)) (f : Nat → Nat), σ = [some (.ref a), some (.ref b), some (.ref D), y3, y4, y5, y6, y7] ∧ Same H H' ∧ H' b = some (.lst vs) ∧ RunsL H' D vs R ∧ H' D = some (.dK (kl i f)) ∧ Prof i R f (st i))
      ⟨_, _, _, _, _, p0, [], [], fun _ => 0, rfl, s03, hp0, .nil, hD0, by rw [hst.1]; exact Prof.zero⟩ (fun i σ H' _ h => by obtain ⟨_, _, _, _, _, _, _, _, _, _, h, _⟩ := h; exact Same.tup h hS) ?_ ?_⟩
    rotate_left
    · rintro σ H' ⟨y3, y4, y5, y6, y7, b, vs, R, f, rfl, sm, hb, hR, hD, hP⟩
      rw [vi_len] at hP hD
      have hRl := hP.rl
      have hvl := hR.len
      have hle := hst.len p.length (Nat.le_refl _)
      refine ⟨.ref b, rfl, b, rfl, ⟨_, .inl (.inl hb)⟩, fun E1 nE1 => ?_⟩
      refine lc_ints (K := K) (walk_list (xs := vs)) (ci (st p.length)) (by rw [ci, List.length_map]; omega) (by omega) nE1 (fun G s => .inl (.inl (s _ _ hb))) ?_ ?_ (fun x σ' H' Q Q' h => h _ _) (fun σ' H' Q Q' h => h _ _)
      · rintro i x G G' hi s4 ⟨rfl, hx⟩ z hz' Rq hRq
        obtain ⟨r, rn, rfl, hr1, hr2, hr3⟩ := hR.get hx
        have hr2' := s4 _ _ hr2
        have hD4 := s4 _ _ hD
        have hrn := List.mem_of_getElem? hr1
        have hz2 : z = ((lev f rn : Nat) : Int) := by
          rw [ci, List.getElem?_map, hP.lv, List.getElem?_map, hr1] at hz'
          exact (Option.some.inj hz').symm
        have hrl : rn.length ≤ 100 := by have h1 := len_in hrn; rw [hP.len] at h1; omega
        refine ⟨rfl, rfl, .ref r, rfl, r, rfl, ⟨_, .inl (.inl hr2')⟩, fun E2 nE2 => ?_⟩
        refine lc_ints (K := K) (walk_list (xs := vi rn)) (ci (rn.map f)) (by rw [ci, List.length_map, List.length_map, vi_len]) (by rw [vi_len]; omega) nE2 (fun G s => .inl (.inl (s _ _ hr2'))) ?_ ?_ (fun x σ' H' Q Q' h => h _ _) (fun σ' H' Q Q' h => h _ _)
        · rintro j x G5 G6 hj s5 ⟨rfl, hx2⟩ u hu' Rq2 hRq2
          rw [vi_len] at hj
          have hg := List.getElem?_eq_getElem hj
          rw [vi_get hg] at hx2
          cases hx2
          rw [ci, List.getElem?_map, List.getElem?_map, hg] at hu'
          cases hu'
          have hlt := hP.lt hrn (List.getElem_mem hj)
          exact ⟨rfl, rfl, .ref D, rfl, _, rfl, D, _, rfl, .inl ⟨kl p.length f, .inl ((rn[j] : Nat) : Int), .inl (s5 _ _ hD4), rfl, by rw [kl_val, if_pos hlt]⟩, hRq2 _ (Same.refl _)⟩
        · intro G5 s5 hE2
          refine ⟨E2, _, rfl, .inl (.inl hE2), ?_, fun mm h1 h2 => ?_⟩
          · rw [ci, List.length_map, List.length_map]
            exact List.length_pos_iff.mpr (hP.ne _ hrn)
          · rw [mx_of h1 h2]
            have := hRq G5 s5
            rw [hz2] at this
            exact this
      · intro G s4 hE1
        exact ⟨E1, _, rfl, .inl ⟨.inl (.inl hE1), fun q' nq' => q _ _ (sm.trans (s4.trans (same_upd nq'))) (by rw [vi_ci]; exact .inl (.inl upd_same))⟩⟩
    rintro i x σ H1 H2 hi ⟨y3, y4, y5, y6, y7, b, vs, R, f, rfl, sm, hb, hR, hD, hP⟩ hy
    obtain ⟨Tp, x1, x2, rfl, nT, rfl, e1, e2⟩ := hy
    cases e1
    rw [vi_len] at hi
    obtain ⟨m, hm⟩ : ∃ m, p[i]? = some m := ⟨_, List.getElem?_eq_getElem hi⟩
    replace e2 : (vi p)[i]? = some x2 := e2
    rw [vi_get hm] at e2
    cases e2
    obtain ⟨hms, hsn⟩ := hst.2 i m hm
    have hRl := hP.rl
    have hvl := hR.len
    have hRi : R.length ≤ i := by have := len_le hP.ne; rw [hP.len] at this; exact this
    have hstep := hP.step (m := m) (by omega)
    rw [← hsn] at hstep
    have sT := same_upd (o := .tup [.int (i : Nat), .int (m : Int)]) nT
    refine ⟨Tp, _, rfl, .inl (.inl upd_same), rfl, _, _, rfl, _, [], rfl, rfl, ?_⟩
    have eK : ((vs.length : Nat) : Int) - (m : Int) = ((R.length - m : Nat) : Int) := by omega
    refine ⟨_, rfl, sz60 (by simp), fun l0 nl0 => ?_⟩
    have s5 := same_upd (o := .lst [V.int (i : Nat)]) nl0
    have hl0 := upd_same (H := upd H1 Tp (.tup [.int (i : Nat), .int (m : Int)])) (a := l0) (o := .lst [V.int (i : Nat)])
    have s15 := sT.trans s5
    generalize upd (upd H1 Tp (.tup [.int (i : Nat), .int (m : Int)])) l0 (.lst [V.int (i : Nat)]) = H5 at *
    clear s5 nl0
    have hb5 := s15 _ _ hb
    have hD5 := s15 _ _ hD
    have hR5 := RunsL.mono (.same s15) hR
    have sm5 := sm.trans s15
    refine ⟨.ref b, rfl, .ref b, rfl, b, _, rfl, .inl (.inl (.inl hb5)), _, rfl, _, _, rfl, rfl, _, rfl, ?_⟩
    unfold tNoPart
    refine ⟨b, vs, rfl, .inl (.inl hb5), fun c1 nc1' => ?_⟩
    rw [eK, cut_from (by omega)]
    have s6 := same_upd (o := .lst (vs.drop (R.length - m))) nc1'
    have hc1 := upd_same (H := H5) (a := c1) (o := .lst (vs.drop (R.length - m)))
    generalize upd H5 c1 (.lst (vs.drop (R.length - m))) = H6 at *
    have hB6 := RunsL.mono (.same s6) (hR5.drop (R.length - m))
    have hBl : (R.drop (R.length - m)).length = m := by rw [List.length_drop]; omega
    have hfl : ∀ t, (mrg ((R.drop (R.length - m)).take t) i).length ≤ 200 := fun t => by
      have h1 : (mrg ((R.drop (R.length - m)).take t) i).length ≤ (mrg (R.drop (R.length - m)) i).length := by
        unfold mrg
        rw [List.length_append, List.length_append, len_rev, len_rev]
        have : ((R.drop (R.length - m)).take t).flatten.length ≤ (R.drop (R.length - m)).flatten.length := by
          conv => rhs; rw [← List.take_append_drop t (R.drop (R.length - m)), List.flatten_append, List.length_append]
          omega
        omega
      have h2 : (mrg (R.drop (R.length - m)) i).length ≤ i + 1 := by
        have := hstep.len
        rw [List.flatten_append, List.length_append] at this
        simp only [List.flatten_cons, List.flatten_nil, List.append_nil] at this
        omega
      omega
    refine ⟨c1, rfl, ⟨_, .inl (.inl hc1)⟩, for_list (K := K) (xs := vs.drop (R.length - m)) (fun t σ G => ∃ (y6 : Option V) (M : Addr), σ = [some (.ref a), some (.ref b), some (.ref D), some (.int (i : Int)), some (.int (m : Int)), some (.ref M), y6, y7] ∧ Same H6 G ∧ G M = some (.lst (vi (mrg ((R.drop (R.length - m)).take t) i)))) ⟨_, l0, rfl, .refl _, s6 _ _ hl0⟩ (fun t σ G _ h => by obtain ⟨_, _, _, h, _⟩ := h; exact .inl (.inl (h _ _ hc1))) ?_ ?_⟩
    · rintro t x σ G hx ⟨y6, M, rfl, sG, hM⟩
      obtain ⟨r, z, rfl, hz1, hr1, hrF⟩ := hB6.get hx
      refine ⟨.ref r, rfl, .ref M, rfl, r, M, _, _, rfl, rfl, sG _ _ hr1, hM, sz60 ?_, fun M' nM' => ?_⟩
      · have h1 := len_in (List.mem_of_getElem? hz1)
        have h2 : (R.drop (R.length - m)).flatten.length ≤ R.flatten.length := by
          conv => rhs; rw [← List.take_append_drop (R.length - m) R, List.flatten_append, List.length_append]
          omega
        have h3 := hP.len
        have h4 := hfl t
        rw [vi_len, vi_len]; omega
      · refine ⟨_, M', rfl, sG.trans (same_upd nM'), ?_⟩
        rw [mrg_succ i hz1, vi_app]; exact upd_same
    rintro σ G ⟨y6, M, rfl, sG, hM⟩
    rw [List.take_of_length_le (show (R.drop (R.length - m)).length ≤ (vs.drop (R.length - m)).length by rw [List.length_drop, List.length_drop]; omega)] at hM
    have s5G := s6.trans sG
    have hbG := s5G _ _ hb5
    have hDG := s5G _ _ hD5
    have hRG := RunsL.mono (.same s5G) hR5
    have smG := sm5.trans s5G
    obtain ⟨B, hB⟩ : ∃ B, B = R.drop (R.length - m) := ⟨_, rfl⟩
    have hfB := hfl B.length
    rw [← hB] at hM hstep hfB
    rw [List.take_length] at hfB
    have hnew : f i = 0 := hP.new i (Nat.le_refl _)
    have hcB : B.flatten.count i = 0 := by
      have h1 := hP.cnt i
      rw [if_neg (by omega), ← List.take_append_drop (R.length - m) R, List.flatten_append, List.count_append, ← hB] at h1
      omega
    have hold : ∀ j, j ∈ B.reverse.flatten → j < i := fun j hj => by
      obtain ⟨r, hr1, hr2⟩ := List.mem_flatten.mp (mem_rev.mp hj)
      exact hP.lt (r := r) (List.mem_of_mem_drop (by rw [← hB]; exact hr1)) hr2
    obtain ⟨L, hL⟩ : ∃ L, L = B.reverse.flatten.length := ⟨_, rfl⟩
    have hml : (mrg B i).length = L + 1 := by unfold mrg; rw [List.length_append, ← hL]; rfl
    clear s5G hb5 hD5 hR5 sm5 hB6 hBl hfl sG s6 hc1 s15 hl0
    -- the counts of the members
    refine ⟨.ref M, rfl, M, rfl, ⟨_, .inl (.inl hM)⟩, for_list (K := K) (xs := vi (mrg B i)) (fun t σ G' => ∃ (y7 : Option V), σ = [some (.ref a), some (.ref b), some (.ref D), some (.int (i : Int)), some (.int (m : Int)), some (.ref M), y6, y7] ∧ (∀ u o, u ≠ D → G u = some o → G' u = some o) ∧ G' D = some (.dK (kl (if t ≤ L then i else i + 1) (bumps f ((mrg B i).take t))))) ⟨_, rfl, fun u o _ e => e, by rw [if_pos (by omega), List.take_zero, bumps_nil]; exact hDG⟩ (fun t σ G' _ h => by obtain ⟨_, _, h, _⟩ := h; exact .inl (.inl (h _ _ (fun e => by rw [e, hDG] at hM; cases hM) hM))) ?_ ?_⟩
    · rintro t x σ G' hx ⟨y7, rfl, sG', hD'⟩
      have htl : t < (mrg B i).length := by have := (List.getElem?_eq_some_iff.mp hx).1; rwa [vi_len] at this
      have hte := List.getElem?_eq_getElem htl
      rw [vi_get hte] at hx
      cases hx
      obtain ⟨j, hj⟩ : ∃ j, j = (mrg B i)[t] := ⟨_, rfl⟩
      have htk : (mrg B i).take (t + 1) = (mrg B i).take t ++ [j] := by rw [List.take_add_one, hte, hj]; rfl
      rw [if_pos (show t ≤ L by omega)] at hD'
      rw [← hj]
      by_cases htL : t < L
      · have hji : j < i := by
          refine hold j ?_
          rw [hj]
          have e : (mrg B i)[t] = B.reverse.flatten[t] := List.getElem_append_left (by omega)
          rw [e]; exact List.getElem_mem _
        refine ⟨.ref D, rfl, D, rfl, .inl ⟨_, .inl hD'⟩, _, rfl, some (.int (bumps f ((mrg B i).take t) j : Nat)), .inl ⟨_, .inl (j : Int), .inl hD', rfl, by rw [kl_val, if_pos hji]⟩, _, _, rfl, rfl, .ref D, rfl, _, rfl, D, _, rfl, .inl ⟨_, .inl (j : Int), hD', rfl, by rw [kl_len]; exact sz61 (by omega), rfl⟩, ?_⟩
        refine ⟨_, rfl, fun u o hu e => by rw [upd_ne hu]; exact sG' u o hu e, ?_⟩
        rw [upd_same, if_pos (by omega), htk, bumps_snoc]
        show some (HO.dK (putK (kl i (bumps f ((mrg B i).take t))) (.inl (j : Int) : L2.Key) (V.int ((bumps f ((mrg B i).take t) j + 1 : Nat) : Int)))) = _
        rw [kl_put_old hji]
      · have eL : t = L := by omega
        have hji : j = i := by
          have e : (mrg B i)[t]? = some i := by
            unfold mrg
            rw [List.getElem?_append_right (by omega), eL, hL, Nat.sub_self]; rfl
          rw [hte] at e
          rw [hj]; exact Option.some.inj e
        rw [hji] at htk ⊢
        have h0 : bumps f ((mrg B i).take t) i = 0 := by
          have e : (mrg B i).take t = B.reverse.flatten := by unfold mrg; rw [eL, hL, List.take_left']; rfl
          rw [e]
          unfold bumps
          rw [hnew, count_rev, hcB]
        refine ⟨.ref D, rfl, D, rfl, .inl ⟨_, .inl hD'⟩, _, rfl, none, .inl ⟨_, .inl (i : Int), .inl hD', rfl, by rw [kl_val, if_neg (by omega)]⟩, _, _, rfl, rfl, .ref D, rfl, _, rfl, D, _, rfl, .inl ⟨_, .inl (i : Int), hD', rfl, by rw [kl_len]; exact sz61 (by omega), rfl⟩, ?_⟩
        refine ⟨_, rfl, fun u o hu e => by rw [upd_ne hu]; exact sG' u o hu e, ?_⟩
        rw [upd_same, if_neg (by omega), htk, bumps_snoc, h0]
        show some (HO.dK (putK (kl i (bumps f ((mrg B i).take t))) (.inl (i : Int) : L2.Key) (V.int ((0 + 1 : Nat) : Int)))) = _
        rw [kl_put_new]
    rintro σ G' ⟨y7', rfl, sG', hD'⟩
    rw [vi_len, if_neg (by omega), List.take_length] at hD'
    have hbG' := sG' _ _ (fun e => by rw [e, hDG] at hbG; cases hbG) hbG
    have hMD : M ≠ D := fun e => by rw [e, hDG] at hM; cases hM
    have hM' := sG' _ _ hMD hM
    have lG : LK D G G' := fun x xs n e => sG' _ _ n e
    have hRG' := RunsL.mono lG hRG
    have smG' : Same H G' := fun u o e => sG' _ _ (fun z => by rw [z, nDH] at e; cases e) (smG _ _ e)
    obtain ⟨f', hf'⟩ : ∃ f', f' = bumps f (mrg B i) := ⟨_, rfl⟩
    rw [← hf'] at hstep hD'
    clear lG hRG smG hbG hM hDG hR hb hD sG'
    -- stack = stack[:..] + [members]
    refine ⟨.ref b, rfl, .ref b, rfl, b, _, rfl, .inl (.inl (.inl hbG')), _, rfl, _, _, rfl, rfl, _, rfl, ?_⟩
    refine ⟨b, vs, rfl, .inl (.inl hbG'), fun c0 nc0 => ?_⟩
    rw [eK, cut_to (by omega)]
    have t0 := same_upd (o := .lst (vs.take (R.length - m))) nc0
    have hc0 := upd_same (H := G') (a := c0) (o := .lst (vs.take (R.length - m)))
    generalize upd G' c0 (.lst (vs.take (R.length - m))) = G2 at *
    refine ⟨.ref M, rfl, sz60 (by simp), fun l2 nl2 => ⟨c0, l2, _, _, rfl, rfl, same_upd nl2 _ _ hc0, upd_same, sz60 (by simp; omega), fun b' nb' => ?_⟩⟩
    have t1 := same_upd (o := .lst [V.ref M]) nl2
    have t2 := same_upd (o := .lst (vs.take (R.length - m) ++ [V.ref M])) nb'
    have tt := t0.trans (t1.trans t2)
    refine ⟨_, _, _, _, _, b', _, _, f', rfl, smG'.trans tt, upd_same, RunsL.add (tt _ _ hM') hMD (RunsL.mono (.same tt) (hRG'.take _)), tt _ _ hD', hstep⟩
end
/-! ### schedules by their states -/
def stf (p : List Nat) (i : Nat) : List Nat := (p.take i).foldl sa []
theorem stf_zero (p : List Nat) : stf p 0 = [] := rfl
theorem stf_succ {p : List Nat} {i m : Nat} (h : p[i]? = some m) : stf p (i + 1) = sa (stf p i) m := by
  unfold stf
  rw [List.take_add_one, h, List.foldl_append]
  rfl
def Good (p : List Nat) : Prop := ∀ i m, p[i]? = some m → m ≤ (stf p i).length
theorem Good.sts {p : List Nat} (h : Good p) : StS p (stf p) := ⟨rfl, fun i m hm => ⟨h i m hm, stf_succ hm⟩⟩
theorem Good.nil : Good [] := fun i m h => by simp at h
theorem stf_app {p q : List Nat} {i : Nat} (h : i ≤ p.length) : stf (p ++ q) i = stf p i := by
  unfold stf
  rw [List.take_append_of_le_length h]
theorem stf_snoc (p : List Nat) (m : Nat) : stf (p ++ [m]) (p.length + 1) = sa (stf p p.length) m := by
  rw [stf_succ (m := m) (by simp), stf_app (Nat.le_refl _)]
theorem Good.snoc {p : List Nat} {m : Nat} (h : Good p) (hm : m ≤ (stf p p.length).length) : Good (p ++ [m]) := fun i x hx => by
  by_cases e : i < p.length
  · rw [List.getElem?_append_left e] at hx
    rw [stf_app (by omega)]
    exact h i x hx
  · by_cases e2 : i = p.length
    · subst e2
      have : x = m := by simpa using hx.symm
      rw [stf_app (Nat.le_refl _), this]; exact hm
    · rw [List.getElem?_eq_none (by rw [List.length_append, List.length_cons, List.length_nil]; omega)] at hx
      cases hx
theorem Good.first {p : List Nat} (h : Good p) (hl : 1 ≤ p.length) : p.take 1 = [0] := by
  cases p with
  | nil => simp at hl
  | cons x p =>
    have := h 0 x rfl
    rw [stf_zero] at this
    have e : x = 0 := by simpa using this
    rw [e]; rfl
theorem StS.take {p : List Nat} {st : Nat → List Nat} (h : StS p st) (n : Nat) : StS (p.take n) st := ⟨h.1, fun i m hm => h.2 i m (by
  rw [List.getElem?_take] at hm
  split at hm
  · exact hm
  · cases hm)⟩
theorem sa_posv {st : List Nat} {m : Nat} (h : ∀ x, x ∈ st → 1 ≤ x) : ∀ x, x ∈ sa st m → 1 ≤ x := fun x hx => by
  unfold sa at hx
  rcases List.mem_append.mp hx with hx | hx
  · exact h x (List.mem_of_mem_take hx)
  · have : x = 1 + mx (st.drop (st.length - m)) := by simpa using hx
    omega
theorem StS.pos {p : List Nat} {st : Nat → List Nat} (h : StS p st) : ∀ i, i ≤ p.length → ∀ x, x ∈ st i → 1 ≤ x := fun i => by
  induction i with
  | zero => intro _ x hx; rw [h.1] at hx; cases hx
  | succ i ih =>
    intro hi
    obtain ⟨a1, a2⟩ := h.2 i _ (List.getElem?_eq_getElem (show i < p.length by omega))
    rw [a2]
    exact sa_posv (ih (by omega))
theorem sta_mx {k c : Nat} {s : List Nat} (h : ∀ x, x ∈ s → 1 ≤ x) : Sta k c s ↔ s.length ≤ k ∧ mx s ≤ c :=
  ⟨fun z => ⟨z.1, z.mx_le⟩, fun z => ⟨z.1, fun x hx => ⟨h x hx, Nat.le_trans (mx_mem hx) z.2⟩⟩⟩
theorem remv_nn' {k c : Nat} {st : List Nat} (h : Sta k c st) : 0 ≤ remv k c st := by
  have h1 := remv_brd h
  have h2 := brd_le h
  omega
theorem remv_lt' {k c : Nat} {st : List Nat} {m : Nat} (h : Sta k c st) (hm : m ≤ st.length) (h2 : Sta k c (sa st m)) : remv k c (sa st m) < remv k c st := by
  have h1 := remv_brd h
  have h3 := remv_brd h2
  have h4 := brd_sa h.pos hm
  omega
theorem walk_none {k c : Nat} {s : List Nat} {m : Nat} (h : Sta k c s) (hm : m ≤ s.length) (h2 : Sta k c (sa s m)) (b : BmN k c s) : False := by
  have e1 := remv_brd h
  have e2 := b.zero h
  have e3 := remv_lt' h hm h2
  have e4 := remv_nn' h2
  omega
theorem walk_flag {k c : Nat} {s : List Nat} {m m' : Nat} {L : Int} (h : Sta k c s) (hm : m ≤ s.length) (h2 : Sta k c (sa s m)) (b : Bm k c s m') (hle : remv k c s ≤ L) :
    decide (remv k c (sa s m) = L - 1) = (decide (remv k c s = L) && decide ((m' : Int) = (m : Int))) ∧ remv k c (sa s m) ≤ L - 1 := by
  obtain ⟨g1, g2⟩ := b.good h
  have hm' := b.2.1
  have e0 := remv_brd h
  have e1 := remv_brd h2
  have e2 := remv_brd g1
  have lt := remv_lt' h hm h2
  refine ⟨?_, by omega⟩
  by_cases e : remv k c (sa s m) = L - 1
  · have : m = m' := good_uniq h hm hm' h2 g1 (by omega) g2
    rw [decide_eq_true e, decide_eq_true (by omega), decide_eq_true (by omega)]; rfl
  · rw [decide_eq_false e]
    by_cases f : remv k c s = L
    · have : ¬ (m' : Int) = (m : Int) := fun z => by
        have z' : m' = m := by omega
        subst z'
        omega
      rw [decide_eq_false this, Bool.and_false]
    · rw [decide_eq_false f, Bool.false_and]
section
variable {P : Program} {w : World} {K : PySem.W.Frag} {mg : Str → Option Value} {base : Heap}
def sp_L_s5_schedule (K : PySem.W.Frag) : Sp := fun vs H Q _ => ∃ (a : Addr) (z : Nat) (n : Int), vs = [.ref a, .int (z : Int)] ∧ Pot H a n ∧ n ≤ 90000 ∧ z ≤ 60 ∧ ∀ H' p (pl : List Nat), But a H H' → Pot H' a (n + 1 + 3 * (z : Int)) → pl.length = z → Good pl → SqT K H' p (vi pl) → Q (.ref p) H'
theorem ok_L_s5_schedule (TX : Tx K mg) : FnOk P w K mg base CX0 2 TX.a_L_s5_schedule TX.fd_L_s5_schedule ["_law_hand", "_law_total"] (sp_L_s5_schedule K) := by
  refine TX.f_L_s5_schedule.ok sc_L_s5_schedule (fun vs H Q E h => ?_) (fun cdv A outer s H vs Q E hr h => ?_)
  · obtain ⟨a, z, n, rfl, _⟩ := h; rfl
  · obtain ⟨a, z, n, rfl, hp, hn, hz, q⟩ := h
    refine ⟨_, (pss_cons (ps_par3 (i := 2) (j := 3) (l := 4) (by rfl) sc_L_s5_schedule.nd rfl rfl rfl (by decide) (by decide) (by decide) rfl rfl rfl (pa_cons (pe_call (ok_L_s5_take TX) (hr.mono (by decide)) (by rfl) TX.g_L_s5_take TX.f_L_s5_take.kp TX.bd_L_s5_take .nil pass0 (pa_cons (pv 0) (pa_cons pe_int pa_nil))) (pa_cons (pe_tup pa_nil) (pa_cons pe_int pa_nil))) (by rfl))
      (pss_cons (ps_for PassesOwn.never rfl (pi_range1 (by rfl) TX.b_range (pa_cons (pv 1) pa_nil)) (pg_name (i := 5) sc_L_s5_schedule.nd rfl (.inl rfl))
        (pss_cons (ps_set (i := 6) sc_L_s5_schedule.nd rfl (.inl rfl) (pe_lst (pa_cons (pe_call (ok_L_s5_take TX) (hr.mono (by decide)) (by rfl) TX.g_L_s5_take TX.f_L_s5_take.kp TX.bd_L_s5_take .nil pass0 (pa_cons (pv 0) (pa_cons (pe_op op_add (pv 4) pe_int) pa_nil))) (pa_cons pe_int (pa_cons (pv 4) (pa_cons (pe_callB (id := "min") (call_min2 rfl) (by rfl) TX.b_min (by decide +kernel) (pa_cons (pv 4) (pa_cons (pe_call (ok_L_s5_take TX) (hr.mono (by decide)) (by rfl) TX.g_L_s5_take TX.f_L_s5_take.kp TX.bd_L_s5_take .nil pass0 (pa_cons (pv 0) (pa_cons pe_int pa_nil))) pa_nil))) pa_nil))))))
        (pss_cut (ps_set (i := 7) sc_L_s5_schedule.nd rfl (.inl rfl) (pe_ifExp (pt_cmpR op_gt (pe_call (ok_L_s5_take TX) (hr.mono (by decide)) (by rfl) TX.g_L_s5_take TX.f_L_s5_take.kp TX.bd_L_s5_take .nil pass0 (pa_cons (pv 0) (pa_cons pe_int pa_nil))) pe_int (nomark _)) (pe_ix (k_ixL (K := K) rfl) (pv 6) (pv 2) (fun _ _ => rfl)) (pe_ix (k_ixL (K := K) rfl) (pv 6) pe_int (fun _ _ => rfl))))
        (pss_one (ps_par (i := 3) (j := 4) (by rfl) sc_L_s5_schedule.nd rfl rfl (by decide) rfl rfl (pa_cons (pe_op (k_catT (K := K) rfl) (pv 3) (pe_tup (pa_cons (pv 7) pa_nil))) (pa_cons (pe_op op_sub (pe_op op_add (pv 4) pe_int) (pv 7)) pa_nil)) (by rfl))))))
      (pss_one (ps_ret (pv 3))))), ?_⟩
    refine ⟨.ref a, rfl, a, 4, n, rfl, hp, by omega, by decide, by decide, fun H1 wy' b1 p1 w0 w1 => ⟨sz60 (by simp), fun t nt => ⟨_, _, _, rfl, ?_⟩⟩⟩
    obtain ⟨wy, rfl⟩ : ∃ wy : Nat, wy' = (wy : Int) := ⟨wy'.toNat, by omega⟩
    have s3 := same_upd (o := .tup []) nt
    have b03 := b1.trans (But.of s3)
    have p3 := p1.same s3
    refine ⟨_, rfl, _, rfl, by omega, by omega, for_range (lo := 0) (n := ((z : Nat) : Int).toNat) (fun i σ H' => ∃ (p : Addr) (pl : List Nat) (y5 y6 y7 : Option V), σ = [some (.ref a), some (.int (z : Int)), some (.int (wy : Int)), some (.ref p), some (.int (((stf pl pl.length).length : Nat) : Int)), y5, y6, y7] ∧ But a H H' ∧ Pot H' a (n + 1 + 3 * (i : Int)) ∧ SqT K H' p (vi pl) ∧ pl.length = i ∧ Good pl) ⟨t, [], none, none, none, rfl, b03, p3.mono (by omega), .inl (.inl upd_same), rfl, Good.nil⟩ ?_ ?_⟩
    · rintro i σ H4 hi ⟨p, pl, y5, y6, y7, rfl, b4, p4, h4, hl, hg⟩
      have hi' : i < z := by omega
      have hlen := hg.sts.len pl.length (Nat.le_refl _)
      obtain ⟨r, hr'⟩ : ∃ r, r = (stf pl pl.length).length := ⟨_, rfl⟩
      rw [← hr'] at hlen ⊢
      refine ⟨.ref a, rfl, _, rfl, _, _, rfl, rfl, a, _, _, rfl, p4, by omega, by omega, by omega, fun H5 u' b5 p5 u0 u1 => ?_⟩
      obtain ⟨u, rfl⟩ : ∃ u : Nat, u' = (u : Int) := ⟨u'.toNat, by omega⟩
      refine ⟨_, rfl, _, rfl, .ref a, rfl, a, 3, _, rfl, p5, by omega, by decide, by decide, fun H6 v' b6 p6 v0 v1 => ⟨_, _, rfl, ?_⟩⟩
      obtain ⟨v, rfl⟩ : ∃ v : Nat, v' = (v : Int) := ⟨v'.toNat, by omega⟩
      dsimp only
      rw [min_nat r v]
      refine ⟨sz60 (by simp), fun l nl => ?_⟩
      have s7 := same_upd (o := .lst [V.int (u : Int), V.int 0, V.int (r : Int), V.int ((min r v : Nat) : Int)]) nl
      obtain ⟨x, ex, hx⟩ : ∃ x : Nat, atI [V.int (u : Int), V.int 0, V.int (r : Int), V.int ((min r v : Nat) : Int)] (wy : Int) = some (.int (x : Int)) ∧ x ≤ r := by
        have hw : wy = 0 ∨ wy = 1 ∨ wy = 2 ∨ wy = 3 := by omega
        rcases hw with rfl | rfl | rfl | rfl
        · exact ⟨u, rfl, by omega⟩
        · exact ⟨0, rfl, by omega⟩
        · exact ⟨r, rfl, by omega⟩
        · exact ⟨min r v, rfl, by omega⟩
      have nla : l ≠ a := p6.ne nl
      refine ⟨fun σ' G' => ∃ x : Nat, σ' = [some (.ref a), some (.int (z : Int)), some (.int (wy : Int)), some (.ref p), some (.int (r : Int)), some (.int (0 + (i : Int))), some (.ref l), some (.int (x : Int))] ∧ x ≤ r ∧ But a H4 G' ∧ Pot G' a (n + 1 + 3 * (i : Int) + 1 + 1 + 1), ?_, ?_⟩
      · refine ⟨.ref a, rfl, a, 3, _, rfl, p6.same s7, by omega, by decide, by decide, fun H8 g b8 p8 g0 g1 => ?_⟩
        have hl8 := b8 _ _ nla (upd_same (H := H6) (a := l) (o := .lst [V.int (u : Int), V.int 0, V.int (r : Int), V.int ((min r v : Nat) : Int)]))
        have b48 := b5.trans (b6.trans ((But.of s7).trans b8))
        refine ⟨_, _, rfl, rfl, _, rfl, ?_⟩
        by_cases hg0 : 0 < g
        · refine decT hg0 ⟨_, rfl, _, rfl, l, _, _, _, rfl, rfl, .inl (.inl hl8), ex, x, rfl, hx, b48, p8⟩
        · refine decF hg0 ⟨_, rfl, l, _, _, .int (u : Int), rfl, rfl, .inl (.inl hl8), rfl, u, rfl, by omega, b48, p8⟩
      · rintro σ' G' ⟨x, rfl, hx, b48, p8⟩
        have h48 := p4.keep b48 _ _ h4
        refine ⟨_, rfl, _, rfl, sz60 (by simp), fun t2 nt2 => ?_⟩
        have s9 := same_upd (o := .tup [V.int (x : Int)]) nt2
        refine cat_read (Same.tup s9 h48) (.inl (.inl upd_same)) (by simp [vi]; omega) fun p' H10 s10 h10 => ?_
        refine ⟨_, rfl, _, _, rfl, rfl, _, rfl, _, _, rfl, rfl, _, _, rfl, ?_⟩
        have e : vi pl ++ [V.int (x : Int)] = vi (pl ++ [x]) := by rw [vi_app]; rfl
        rw [e] at h10
        refine ⟨p', pl ++ [x], some (.int (0 + (i : Int))), some (.ref l), some (.int (x : Int)), ?_, b4.trans (b48.trans (But.of (s9.trans s10))), (p8.same (s9.trans s10)).mono (by omega), h10, by rw [List.length_append, hl]; rfl, hg.snoc (by omega)⟩
        have e2 : (stf (pl ++ [x]) (pl ++ [x]).length).length = r + 1 - x := by
          rw [List.length_append]
          show (stf (pl ++ [x]) (pl.length + 1)).length = _
          rw [stf_snoc, sa_len (by omega)]; omega
        rw [e2]
        have e3 : (r : Int) + 1 - (x : Int) = ((r + 1 - x : Nat) : Int) := by omega
        rw [← e3]
        rfl
    · rintro σ H4 ⟨p, pl, y5, y6, y7, rfl, b4, p4, h4, hl, hg⟩
      rw [Int.toNat_natCast] at hl p4
      exact ⟨.ref p, rfl, q _ p pl b4 p4 hl hg h4⟩
end
theorem isSchR_bad : ∀ (ds : List PyData) (j r : Nat) (d : PyData), ds[j]? = some d → (∀ i : Int, d = .int i → i < 0 ∨ ((r + j : Nat) : Int) < i) → isSchR r ds = false
  | [], j, r, d, h, _ => by simp at h
  | x :: ds, 0, r, d, h, hb => by
    have e : x = d := by simpa using h
    subst e
    cases x with
    | int i =>
      show ((decide (0 ≤ i) && decide (i ≤ (r : Int))) && _) = false
      rcases hb i rfl with h | h
      · rw [decide_eq_false (show ¬ 0 ≤ i by omega)]; rfl
      · rw [decide_eq_false (show ¬ i ≤ (r : Int) by omega), Bool.and_false]; rfl
    | _ => rfl
  | x :: ds, j + 1, r, d, h, hb => by
    cases x with
    | int i =>
      show ((decide (0 ≤ i) && decide (i ≤ (r : Int))) && isSchR (r + 1 - i.toNat) ds) = false
      rw [isSchR_bad ds j (r + 1 - i.toNat) d (by simpa using h) fun z hz => by
        rcases hb z hz with h1 | h1
        · exact .inl h1
        · refine .inr ?_
          have : (r + 1 - i.toNat + j : Nat) ≤ r + (j + 1) := by omega
          omega]
      rw [Bool.and_false]
    | _ => rfl
theorem isSchD_bad {ds : List PyData} {j : Nat} {d : PyData} (h : ds[j]? = some d) (hb : ∀ i : Int, d = .int i → i < 0 ∨ (j : Int) < i) : isSchD (.tuple ds) = false := by
  show (decide (ds.length ≤ 60) && isSchR 0 ds) = false
  rw [isSchR_bad ds j 0 d h fun i hi => by have := hb i hi; rw [Nat.zero_add]; exact this, Bool.and_false]
section
variable {P : Program} {w : World} {K : PySem.W.Frag} {mg : Str → Option Value} {base : Heap}
def sp_L_s5_bad (K : PySem.W.Frag) : Sp := fun vs H Q _ => ∃ (p b : Addr) (st : List Nat) (n : Int) (o : HO), vs = [.ref p, .ref b] ∧ Pot H p n ∧ n ≤ 90000 ∧ SqT K H b (vi st) ∧ st.length ≤ 20 ∧ (∀ x, x ∈ st → x ≤ 60) ∧ H sysModules = some o ∧ p ≠ sysModules ∧
  ∀ H' l xs, But p H H' → Pot H' p (n + 1) → H' l = some (.lst xs) → l ≠ p → xs.length = 16 → (∀ v, v ∈ xs → ∃ d, Dq K (off p H') v d ∧ Sn 2 1000 d ∧ isSchD d = false) → Q (.ref l) H'
theorem ok_L_s5_bad (TX : Tx K mg) : FnOk P w K mg base CX0 2 TX.a_L_s5_bad TX.fd_L_s5_bad ["_law_hand", "_law_plan"] (sp_L_s5_bad K) := by
  refine TX.f_L_s5_bad.ok sc_L_s5_bad (fun vs H Q E h => ?_) (fun cdv A outer s H vs Q E hr h => ?_)
  · obtain ⟨p, b, st, n, o, rfl, _⟩ := h; rfl
  · obtain ⟨p, b, st, n, o, rfl, hp0, hn, hb0, hsl, hsx, hsys0, hps, q0⟩ := h
    refine ⟨_, (pss_cons (ps_set (i := 2) sc_L_s5_bad.nd rfl (.inl rfl) (pe_call (ok_L_s5_take TX) (hr.mono (by decide)) (by rfl) TX.g_L_s5_take TX.f_L_s5_take.kp TX.bd_L_s5_take .nil pass0 (pa_cons (pv 0) (pa_cons (pe_op op_add (pe_callB (id := "len") (k_len (K := K) rfl) (by rfl) TX.b_len (by decide +kernel) (pa_cons (pv 1) pa_nil)) pe_int) pa_nil))))
      (pss_cons (ps_set (i := 3) sc_L_s5_bad.nd rfl (.inl rfl) (pe_lst (pa_cons (pe_callTy (T := "list") (k_listOf (K := K) rfl) (by rfl) TX.b_list (by decide +kernel) (pa_cons (pv 1) pa_nil)) (pa_cons (pe_op (k_catT (K := K) rfl) (pe_op (k_catT (K := K) rfl) (pe_slice (k_slT (K := K) rfl) (pv 1) po_none (po_some (pv 2))) (pe_tup (pa_cons pe_int pa_nil))) (pe_slice (k_slT (K := K) rfl) (pv 1) (po_some (pv 2)) po_none)) (pa_cons (pe_op (k_catT (K := K) rfl) (pe_op (k_catT (K := K) rfl) (pe_slice (k_slT (K := K) rfl) (pv 1) po_none (po_some (pv 2))) (pe_tup (pa_cons (pe_un un_neg pe_int) pa_nil))) (pe_slice (k_slT (K := K) rfl) (pv 1) (po_some (pv 2)) po_none)) pa_nil)))))
      (pss_cons (ps_set (i := 3) sc_L_s5_bad.nd rfl (.inl rfl) (pe_op op_cat (pv 3) (pe_lst (pa_cons (pe_op (k_catT (K := K) rfl) (pe_tup (pa_cons pe_int pa_nil)) (pv 1)) (pa_cons (pe_op (k_catT (K := K) rfl) (pv 1) (pe_tup (pa_cons pe_non pa_nil))) (pa_cons (pe_op op_repQ (pe_tup (pa_cons pe_int pa_nil)) pe_int) (pa_cons (pe_tup (pa_cons pe_bl pa_nil)) (pa_cons (pe_tup (pa_cons pe_str pa_nil)) (pa_cons pe_non (pa_cons pe_int (pa_cons pe_str (pa_cons pe_dnewK (pa_cons (pe_tup (pa_cons (pe_tup pa_nil) pa_nil)) (pa_cons (pe_tup (pa_cons (pv 1) pa_nil)) pa_nil))))))))))))))
      (pss_one (ps_ret (pe_op op_cat (pv 3) (pe_lst (pa_cons (pe_op (k_catT (K := K) rfl) (pv 1) (pe_tup (pa_cons pe_bl pa_nil))) (pa_cons (pe_op (k_catT (K := K) rfl) (pv 1) (pe_tup (pa_cons (pe_lst (pa_cons pe_int pa_nil)) pa_nil))) pa_nil))))))))), ?_⟩
    refine ⟨.ref p, rfl, .ref b, rfl, b, _, rfl, .inr hb0, _, _, rfl, rfl, p, _, n, rfl, hp0, by omega, by rw [vi_len]; omega, by rw [vi_len]; omega, fun H i' b0 hp i0 i1 => ?_⟩
    obtain ⟨i, rfl⟩ : ∃ i : Nat, i' = (i : Int) := ⟨i'.toNat, by omega⟩
    rw [vi_len] at i1
    have hi : i ≤ st.length := by omega
    have hb := hp0.keep b0 _ _ hb0
    have hsys := b0 _ _ (Ne.symm hps) hsys0
    have q : ∀ H' l xs, Same H H' → H l = none → H' l = some (.lst xs) → xs.length = 16 → (∀ v, v ∈ xs → ∃ d, Dq K (off p H') v d ∧ Sn 2 1000 d ∧ isSchD d = false) → Q (.ref l) H' := fun H' l xs s nl h1 h2 h3 => q0 H' l xs (b0.trans (But.of s)) (hp.same s) h1 (hp.ne nl) h2 h3
    clear q0 hb0 hsys0 b0 hp0
    have ns : ∀ {G : Hp} {x : Addr}, Same H G → G x = none → x ≠ sysModules := fun {G x} s e z => by rw [z, s _ _ hsys] at e; cases e
    have hsm : ∀ x, x ∈ st → x ≤ 61 := fun x hx => by have := hsx x hx; omega
    have hE := Sn.nats hsm
    have hcl : ((ci st).map PyData.int).length = st.length := by simp [ci]
    refine ⟨.ref b, rfl, b, vi st, rfl, .inr hb, fun a1 na1 => ?_⟩
    have u1 := same_upd (o := .lst (vi st)) na1
    have f1 := upd_same (H := H) (a := a1) (o := .lst (vi st))
    have y1 : a1 ≠ p ∧ a1 ≠ sysModules := ⟨hp.ne na1, ns (Same.refl _) na1⟩
    generalize upd H a1 _ = G1 at u1 f1 ⊢
    -- plan[:i] + (61,) + plan[i:]
    refine ⟨.ref b, rfl, _, rfl, _, rfl, ?_⟩
    unfold tNoPart
    refine sl_read (Same.tup u1 hb) fun c2 G2 v2 f2 => ?_
    rw [cutV_to hi] at f2
    have u2 := u1.trans v2
    refine ⟨sz60 (by simp), fun a3 na3 => cat_read (Same.tup (same_upd na3) f2) (.inl (.inl upd_same)) (by simp [vi]; omega) fun c3 G3 v3 f3 => ?_⟩
    have u3 := u2.trans ((same_upd na3).trans v3)
    refine ⟨.ref b, rfl, _, rfl, _, rfl, sl_read (Same.tup u3 hb) fun c4 G4 v4 f4 => ?_⟩
    rw [cutV_from hi] at f4
    have u4 := u3.trans v4
    refine cat_read (Same.tup v4 f3) f4 (by simp [vi]; omega) fun c5 G5 v5 f5 => ?_
    have u5 := u4.trans v5
    -- plan[:i] + (-1,) + plan[i:]
    refine ⟨.ref b, rfl, _, rfl, _, rfl, sl_read (Same.tup u5 hb) fun c6 G6 v6 f6 => ?_⟩
    rw [cutV_to hi] at f6
    have u6 := u5.trans v6
    refine ⟨_, rfl, sz60 (by simp), fun a7 na7 => cat_read (Same.tup (same_upd na7) f6) (.inl (.inl upd_same)) (by simp [vi]; omega) fun c7 G7 v7 f7 => ?_⟩
    have w7 := (same_upd na7).trans v7
    have u7 := u6.trans w7
    refine ⟨.ref b, rfl, _, rfl, _, rfl, sl_read (Same.tup u7 hb) fun c8 G8 v8 f8 => ?_⟩
    rw [cutV_from hi] at f8
    have u8 := u7.trans v8
    refine cat_read (Same.tup v8 f7) f8 (by simp [vi]; omega) fun c9 G9 v9 f9 => ?_
    have u9 := u8.trans v9
    have w59 := v6.trans (w7.trans (v8.trans v9))
    have w19' := v2.trans (((same_upd na3).trans v3).trans (v4.trans (v5.trans w59)))
    clear v2 v3 v4 v5 v6 v7 v8 v9 w7 f2 f3 f4 f6 f7 f8 na3 na7
    refine ⟨sz60 (by simp), fun l1 nl1 => ?_⟩
    have w10 := same_upd (o := .lst [V.ref a1, V.ref c5, V.ref c9]) nl1
    have g10 := upd_same (H := G9) (a := l1) (o := .lst [V.ref a1, V.ref c5, V.ref c9])
    have u10 := u9.trans w10
    generalize upd G9 l1 _ = H10 at w10 g10 u10 ⊢
    -- the second list
    refine ⟨.ref l1, rfl, sz60 (by simp), fun a11 na11 => ⟨.ref b, rfl, cat_read (.inl (.inl upd_same)) (Same.tup (u10.trans (same_upd na11)) hb) (by simp [vi]; omega) fun c11 H11 v11 f11 => ?_⟩⟩
    have w11 := (same_upd na11).trans v11
    have u11 := u10.trans w11
    refine ⟨.ref b, rfl, sz60 (by simp), fun a12 na12 => cat_read (Same.tup (u11.trans (same_upd na12)) hb) (.inl (.inl upd_same)) (by simp [vi]; omega) fun c12 H12 v12 f12 => ?_⟩
    have w12 := (same_upd na12).trans v12
    have u12 := u11.trans w12
    refine ⟨sz60 (by simp), fun a13 na13 => ?_⟩
    dsimp only [tC]
    refine rep_read (K := K) (.inl (.inl upd_same)) (by simp) (by omega) (by omega) (by simp) fun c13 H13 v13 f13 => ?_
    have w13 := (same_upd na13).trans v13
    have u13 := u12.trans w13
    refine ⟨sz60 (by simp), fun a14 na14 => ?_⟩
    have w14 := same_upd (o := .tup [V.bl true]) na14
    have f14 := upd_same (H := H13) (a := a14) (o := .tup [V.bl true])
    have u14 := u13.trans w14
    generalize upd H13 a14 _ = H14 at w14 f14 u14 ⊢
    refine ⟨sz60 (by simp), fun a15 na15 => ?_⟩
    have w15 := same_upd (o := .tup [V.str "0"]) na15
    have f15 := upd_same (H := H14) (a := a15) (o := .tup [V.str "0"])
    have u15 := u14.trans w15
    generalize upd H14 a15 _ = H15 at w15 f15 u15 ⊢
    refine fun a16 na16 => ?_
    have w16 := same_upd (o := .dK []) na16
    have f16 := upd_same (H := H15) (a := a16) (o := .dK [])
    have u16 := u15.trans w16
    have y16 : a16 ≠ p := (hp.same u15).ne na16
    generalize upd H15 a16 _ = H16 at w16 f16 u16 ⊢
    refine ⟨sz60 (by simp), fun a17 na17 => ⟨sz60 (by simp), fun a18 na18 => ?_⟩⟩
    have w17 := same_upd (o := .tup []) na17
    have f17 := upd_same (H := H16) (a := a17) (o := .tup [])
    have u17 := u16.trans w17
    generalize upd H16 a17 _ = H17 at w17 f17 u17 na18 ⊢
    have w18 := same_upd (o := .tup [V.ref a17]) na18
    have f18 := upd_same (H := H17) (a := a18) (o := .tup [V.ref a17])
    have u18 := u17.trans w18
    generalize upd H17 a18 _ = H18 at w18 f18 u18 ⊢
    refine ⟨.ref b, rfl, sz60 (by simp), fun a19 na19 => ?_⟩
    have w19 := same_upd (o := .tup [V.ref b]) na19
    have f19 := upd_same (H := H18) (a := a19) (o := .tup [V.ref b])
    have u19 := u18.trans w19
    generalize upd H18 a19 _ = H19 at w19 f19 u19 ⊢
    refine ⟨sz60 (by simp), fun l2 nl2 => ?_⟩
    have w20 := same_upd (o := .lst [V.ref c11, V.ref c12, V.ref c13, V.ref a14, V.ref a15, V.non, V.int 0, V.str "", V.ref a16, V.ref a18, V.ref a19]) nl2
    have f20 := upd_same (H := H19) (a := l2) (o := .lst [V.ref c11, V.ref c12, V.ref c13, V.ref a14, V.ref a15, V.non, V.int 0, V.str "", V.ref a16, V.ref a18, V.ref a19])
    have u20 := u19.trans w20
    generalize upd H19 l2 _ = H20 at w20 f20 u20 ⊢
    have w1020 := w11.trans (w12.trans (w13.trans (w14.trans (w15.trans (w16.trans (w17.trans (w18.trans (w19.trans w20))))))))
    refine ⟨l1, l2, _, _, rfl, rfl, w1020 _ _ g10, f20, sz60 (by simp), fun l3 nl3 => ?_⟩
    have w21 := same_upd (o := .lst ([V.ref a1, V.ref c5, V.ref c9] ++ [V.ref c11, V.ref c12, V.ref c13, V.ref a14, V.ref a15, V.non, V.int 0, V.str "", V.ref a16, V.ref a18, V.ref a19])) nl3
    have f21 := upd_same (H := H20) (a := l3) (o := .lst ([V.ref a1, V.ref c5, V.ref c9] ++ [V.ref c11, V.ref c12, V.ref c13, V.ref a14, V.ref a15, V.non, V.int 0, V.str "", V.ref a16, V.ref a18, V.ref a19]))
    have u21 := u20.trans w21
    generalize upd H20 l3 _ = H21 at w21 f21 u21 ⊢
    refine ⟨.ref l3, rfl, .ref b, rfl, sz60 (by simp), fun a22 na22 => cat_read (Same.tup (u21.trans (same_upd na22)) hb) (.inl (.inl upd_same)) (by simp [vi]; omega) fun c22 H22 v22 f22 => ?_⟩
    have w22 := (same_upd na22).trans v22
    have u22 := u21.trans w22
    refine ⟨.ref b, rfl, sz60 (by simp), fun a23 na23 => ?_⟩
    have w23 := same_upd (o := .lst [V.int 0]) na23
    have f23 := upd_same (H := H22) (a := a23) (o := .lst [V.int 0])
    have u23 := u22.trans w23
    have y23 : a23 ≠ p ∧ a23 ≠ sysModules := ⟨(hp.same u22).ne na23, ns u22 na23⟩
    generalize upd H22 a23 _ = H23 at w23 f23 u23 ⊢
    refine ⟨sz60 (by simp), fun a24 na24 => cat_read (Same.tup (u23.trans (same_upd na24)) hb) (.inl (.inl upd_same)) (by simp [vi]; omega) fun c24 H24 v24 f24 => ?_⟩
    have w24 := (same_upd na24).trans v24
    have u24 := u23.trans w24
    refine ⟨sz60 (by simp), fun l4 nl4 => ?_⟩
    have w25 := same_upd (o := .lst [V.ref c22, V.ref c24]) nl4
    have f25 := upd_same (H := H24) (a := l4) (o := .lst [V.ref c22, V.ref c24])
    have u25 := u24.trans w25
    generalize upd H24 l4 _ = H25 at w25 f25 u25 ⊢
    refine ⟨l3, l4, _, _, rfl, rfl, (w22.trans (w23.trans (w24.trans w25))) _ _ f21, f25, sz60 (by simp), fun l5 nl5 => ?_⟩
    have w26 := same_upd (o := .lst ([V.ref a1, V.ref c5, V.ref c9] ++ [V.ref c11, V.ref c12, V.ref c13, V.ref a14, V.ref a15, V.non, V.int 0, V.str "", V.ref a16, V.ref a18, V.ref a19] ++ [V.ref c22, V.ref c24])) nl5
    have x24 := w25.trans w26
    have x23 := w24.trans x24
    have x22 := w23.trans x23
    have x21 := w22.trans x22
    have x20 := w21.trans x21
    have x19 := w20.trans x20
    have x18 := w19.trans x19
    have x17 := w18.trans x18
    have x16 := w17.trans x17
    have x15 := w16.trans x16
    have x14 := w15.trans x15
    have x13 := w14.trans x14
    have x12 := w13.trans x13
    have x11 := w12.trans x12
    have x10 := w11.trans x11
    have x9 := w10.trans x10
    have x5 := w59.trans x9
    have x0 := u9.trans x9
    have x1 := w19'.trans x9
    refine q _ l5 _ x0 (u25.free nl5) upd_same rfl ?_
    have hpF := hp.same x0
    have hbF := Same.tup x0 hb
    have f1' := x1 _ _ f1
    have f5' := Same.tup x5 f5
    have f9' := Same.tup x9 f9
    have f11' := Same.tup x11 f11
    have f12' := Same.tup x12 f12
    have f13' := Same.tup x13 f13
    have f14' := x14 _ _ f14
    have f15' := x15 _ _ f15
    have f16' := x16 _ _ f16
    have f17' := x17 _ _ f17
    have f18' := x18 _ _ f18
    have f19' := x19 _ _ f19
    have f22' := Same.tup x22 f22
    have f23' := x23 _ _ f23
    have f24' := Same.tup x24 f24
    generalize upd H25 l5 _ = GF at *
    clear w26 w25 w24 w23 w22 w21 w20 w19 w18 w17 w16 w15 w14 w13 w12 w11 w10 w1020 w59 w19' x24 x23 x22 x21 x20 x19 x18 x17 x16 x15 x14 x13 x12 x11 x10 x9 x5 x1 u1 u2 u3 u4 u5 u6 u7 u8 u9 u10 u11 u12 u13 u14 u15 u16 u17 u18 u19 u20 u21 u22 u23 u24 u25 v11 v12 v13 v22 v24
    have hbq : Dq K (off p GF) (.ref b) (.tuple ((ci st).map PyData.int)) := dq_ot hpF hbF (dqInts st)
    have snL : Sn 1 1000 (.tuple ((ci st).map PyData.int)) := Sn.tupl (n := 0) (k := 0) hE (by rw [hcl]; omega)
    have sn1 : ∀ (l : List PyData), (∀ d, d ∈ l → Sn 0 0 d) → l.length ≤ 70 → Sn 2 1000 (.tuple l) := fun l h1 h2 => (Sn.tupl (n := 0) (k := 0) (m := 700) h1 (by omega)).mono (by omega) (by omega)
    have app : ∀ (a b : List PyData), (∀ d, d ∈ a → Sn 0 0 d) → (∀ d, d ∈ b → Sn 0 0 d) → ∀ d, d ∈ a ++ b → Sn 0 0 d := fun a b h1 h2 d hd => by
      rcases List.mem_append.mp hd with hd | hd
      · exact h1 d hd
      · exact h2 d hd
    have one : ∀ (d : PyData), Sn 0 0 d → ∀ e, e ∈ [d] → Sn 0 0 e := fun d h e he => by rw [List.mem_singleton.mp he]; exact h
    have hEt : ∀ d, d ∈ (ci (st.take i)).map PyData.int → Sn 0 0 d := Sn.nats fun x hx => hsm x (List.mem_of_mem_take hx)
    have hEd : ∀ d, d ∈ (ci (st.drop i)).map PyData.int → Sn 0 0 d := Sn.nats fun x hx => hsm x (List.mem_of_mem_drop hx)
    have lt : ((ci (st.take i)).map PyData.int).length = i := by simp [ci]; omega
    have ld : ((ci (st.drop i)).map PyData.int).length = st.length - i := by simp [ci]
    intro v hv
    simp only [List.cons_append, List.nil_append, List.mem_cons, List.not_mem_nil, or_false] at hv
    rcases hv with rfl | rfl | rfl | rfl | rfl | rfl | rfl | rfl | rfl | rfl | rfl | rfl | rfl | rfl | rfl | rfl
    · exact ⟨_, dq_ol f1' y1.1 y1.2 (dqInts st), (Sn.lstl (n := 0) (k := 0) (m := 1000) hE (by rw [hcl]; omega)).mono (by omega) (by omega), rfl⟩
    · exact ⟨_, dq_ot hpF f5' (DqAll.app (DqAll.app (dqInts _) (.cons (.intq 61) .nil)) (dqInts _)), sn1 _ (app _ _ (app _ _ hEt (one _ (.int (by decide)))) hEd) (by rw [List.length_append, List.length_append, lt, ld]; simp; omega), isSchD_bad (j := i) (d := .int 61) (by rw [List.getElem?_append_left (by rw [List.length_append, lt]; simp), List.getElem?_append_right (by omega), lt, Nat.sub_self]; rfl) fun z hz => by cases hz; omega⟩
    · exact ⟨_, dq_ot hpF f9' (DqAll.app (DqAll.app (dqInts _) (.cons (.intq (-1)) .nil)) (dqInts _)), sn1 _ (app _ _ (app _ _ hEt (one _ (.int (by decide)))) hEd) (by rw [List.length_append, List.length_append, lt, ld]; simp; omega), isSchD_bad (j := i) (d := .int (-1)) (by rw [List.getElem?_append_left (by rw [List.length_append, lt]; simp), List.getElem?_append_right (by omega), lt, Nat.sub_self]; rfl) fun z hz => by cases hz; omega⟩
    · exact ⟨_, dq_ot hpF f11' (DqAll.app (.cons (.intq 1) .nil) (dqInts _)), sn1 _ (app _ _ (one _ (.int (by decide))) hE) (by rw [List.length_append, hcl]; simp; omega), isSchD_bad (j := 0) (d := .int 1) rfl fun z hz => by cases hz; omega⟩
    · exact ⟨_, dq_ot hpF f12' (DqAll.app (dqInts _) (.cons .nonq .nil)), sn1 _ (app _ _ hE (one _ .none)) (by rw [List.length_append, hcl]; simp; omega), isSchD_bad (j := st.length) (d := .none) (by rw [List.getElem?_append_right (by omega), hcl, Nat.sub_self]; rfl) fun z hz => nomatch hz⟩
    · have e4 : (List.replicate (61 : Int).toNat [V.int 0]).flatten = vi (List.replicate 61 0) := by rw [show (61 : Int).toNat = 61 from rfl, vi_rep]; rfl
      have f4'' : SqT K GF c13 (vi (List.replicate 61 0)) := by rw [← e4]; exact f13'
      refine ⟨_, dq_ot hpF f4'' (dqInts _), sn1 _ (Sn.nats fun x hx => by rw [List.eq_of_mem_replicate hx]; decide) (by simp [ci]), by decide +kernel⟩
    · exact ⟨_, dq_ot hpF (.inl (.inl f14')) (.cons (.blq true) .nil), sn1 _ (one _ .bool) (by simp), isSchD_bad (j := 0) (d := .bool true) rfl fun z hz => nomatch hz⟩
    · exact ⟨_, dq_ot hpF (.inl (.inl f15')) (.cons (.strq _) .nil), (Sn.t1 (k := 0) (n := 10) (.str (by decide +kernel) (by decide +kernel))).mono (by omega) (by omega), isSchD_bad (j := 0) rfl fun z hz => nomatch hz⟩
    · exact ⟨_, .nonq, .none, rfl⟩
    · exact ⟨_, .intq 0, .int (by decide), rfl⟩
    · exact ⟨_, .strq _, .str (by decide +kernel) (by decide +kernel), rfl⟩
    · exact ⟨.dict [], .dctq (kvs := []) (by rw [off_at y16]; exact f16') rfl .nil, by constructor <;> decide +kernel, rfl⟩
    · exact ⟨_, dq_ot hpF (.inl (.inl f18')) (.cons (dq_ot hpF (.inl (.inl f17')) .nil) .nil), by constructor <;> decide +kernel, isSchD_bad (j := 0) (d := .tuple []) rfl fun z hz => nomatch hz⟩
    · exact ⟨_, dq_ot hpF (.inl (.inl f19')) (.cons hbq .nil), (Sn.t1 (k := 1) (n := 700) (Sn.tupl (n := 0) (k := 0) hE (by rw [hcl]; omega))).mono (by omega) (by omega), isSchD_bad (j := 0) rfl fun z hz => nomatch hz⟩
    · exact ⟨_, dq_ot hpF f22' (DqAll.app (dqInts _) (.cons (.blq true) .nil)), sn1 _ (app _ _ hE (one _ .bool)) (by rw [List.length_append, hcl]; simp; omega), isSchD_bad (j := st.length) (d := .bool true) (by rw [List.getElem?_append_right (by omega), hcl, Nat.sub_self]; rfl) fun z hz => nomatch hz⟩
    · refine ⟨_, dq_ot hpF f24' (DqAll.app (dqInts _) (.cons (dq_ol f23' y23.1 y23.2 (.cons (.intq 0) .nil)) .nil)), ?_, isSchD_bad (j := st.length) (d := .list [.int 0]) (by rw [List.getElem?_append_right (by omega), hcl, Nat.sub_self]; rfl) fun z hz => nomatch hz⟩
      refine (Sn.tupl (n := 8) (k := 1) (m := 900) (fun d hd => ?_) (by rw [List.length_append, hcl]; simp; omega)).mono (by omega) (by omega)
      rcases List.mem_append.mp hd with hd | hd
      · exact (hE d hd).mono (by omega) (by omega)
      · rw [List.mem_singleton.mp hd]; exact Sn.l1 (k := 0) (n := 0) (.int (by decide))
end
/-! ### all schedules of a length, with the number of runs -/
def extS (x : List Nat × Nat) : List (List Nat × Nat) := (List.range (x.2 + 1)).map fun t => (x.1 ++ [t], x.2 + 1 - t)
def schL : Nat → List (List Nat × Nat)
  | 0 => [([], 0)]
  | n + 1 => (schL n).flatMap extS
theorem schL_len : ∀ n, n ≤ 7 → (schL n).length ≤ 429 := by decide +kernel
theorem schL_ok : ∀ n, ∀ x, x ∈ schL n → Good x.1 ∧ x.1.length = n ∧ x.2 = (stf x.1 n).length
  | 0, x, h => by
    have e : x = ([], 0) := by simpa [schL] using h
    subst e
    exact ⟨Good.nil, rfl, rfl⟩
  | n + 1, x, h => by
    obtain ⟨y, hy, hx⟩ := List.mem_flatMap.mp h
    obtain ⟨h1, h2, h3⟩ := schL_ok n y hy
    obtain ⟨t, ht, rfl⟩ := List.mem_map.mp hx
    have ht := List.mem_range.mp ht
    have hs : stf (y.1 ++ [t]) (n + 1) = sa (stf y.1 n) t := by rw [← h2]; exact stf_snoc y.1 t
    refine ⟨h1.snoc (by rw [h2]; omega), by rw [List.length_append, h2]; rfl, ?_⟩
    show y.2 + 1 - t = (stf (y.1 ++ [t]) (n + 1)).length
    rw [hs, sa_len (by omega)]; omega
/-- every schedule of the length is there -/
theorem schL_all : ∀ (n : Nat) (p : List Nat), Good p → p.length = n → (p, (stf p n).length) ∈ schL n
  | 0, p, _, hl => by
    have : p = [] := List.length_eq_zero_iff.mp hl
    subst this
    simp [schL, stf]
  | n + 1, p, hg, hl => by
    obtain ⟨q, t, rfl⟩ : ∃ q t, p = q ++ [t] := ⟨p.dropLast, p.getLast (by intro e; rw [e] at hl; cases hl), (List.dropLast_concat_getLast _).symm⟩
    have hq : q.length = n := by rw [List.length_append] at hl; simpa using hl
    have hgq : Good q := fun i m hm => by
      have hi := (List.getElem?_eq_some_iff.mp hm).1
      have := hg i m (by rw [List.getElem?_append_left hi]; exact hm)
      rwa [stf_app (by omega)] at this
    have ht := hg q.length t (by simp)
    rw [stf_app (Nat.le_refl _), hq] at ht
    refine List.mem_flatMap.mpr ⟨_, schL_all n q hgq hq, List.mem_map.mpr ⟨t, List.mem_range.mpr (by dsimp only; omega), ?_⟩⟩
    dsimp only
    congr 1
    have hs : stf (q ++ [t]) (n + 1) = sa (stf q n) t := by rw [← hq]; exact stf_snoc q t
    rw [hs, sa_len ht]; omega
def dPl (p : List Nat) : PyData := .tuple ((ci p).map PyData.int)
def dSc (x : List Nat × Nat) : PyData := .tuple [dPl x.1, .int (x.2 : Int)]
theorem tf_dPl (p : List Nat) : Tf (dPl p) := .tup (tf_ints _)
theorem tf_dSc (x : List Nat × Nat) : Tf (dSc x) := .tup fun d hd => by
  simp only [List.mem_cons, List.not_mem_nil, or_false] at hd
  rcases hd with rfl | rfl
  · exact tf_dPl _
  · exact .int _
theorem dSc_inv {K : PySem.W.Frag} {H : Hp} {v : V} {x : List Nat × Nat} (h : Dp K H v (dSc x)) : ∃ t b, v = .ref t ∧ SqT K H t [.ref b, .int (x.2 : Int)] ∧ SqT K H b (vi x.1) := by
  obtain ⟨t, xs, rfl, h1, h2⟩ := Dp.tupInv h
  cases h2 with
  | cons a b =>
    cases b with
    | cons c d =>
      cases d
      cases c
      obtain ⟨u, rfl, hu⟩ := Dp.intsInv a
      exact ⟨t, u, rfl, h1, by rw [vi_ci]; exact hu⟩
theorem fm_take {l : List (List Nat × Nat)} (i : Nat) : ((l.take i).flatMap extS).length ≤ (l.flatMap extS).length := by
  have e : l.flatMap extS = (l.take i).flatMap extS ++ (l.drop i).flatMap extS := by rw [← List.flatMap_append, List.take_append_drop]
  rw [e, List.length_append]; omega
section
variable {P : Program} {w : World} {K : PySem.W.Frag} {mg : Str → Option Value} {base : Heap}
def sp_L_s5_schedules (K : PySem.W.Frag) : Sp := fun vs H Q _ => ∃ n : Nat, vs = [.int (n : Int)] ∧ n ≤ 7 ∧ ∀ H' p us, Same H H' → H p = none → H' p = some (.lst us) → DpAll K H' us ((schL n).map fun x => dPl x.1) → Q (.ref p) H'
theorem ok_L_s5_schedules (TX : Tx K mg) : FnOk P w K mg base CX0 1 TX.a_L_s5_schedules TX.fd_L_s5_schedules ["_law_total"] (sp_L_s5_schedules K) := by
  refine TX.f_L_s5_schedules.ok sc_L_s5_schedules (fun vs H Q E h => ?_) (fun cdv A outer s H vs Q E hr h => ?_)
  · obtain ⟨n, rfl, _⟩ := h; rfl
  · obtain ⟨n, rfl, hn, q⟩ := h
    refine ⟨_, (pss_cons (ps_set (i := 1) sc_L_s5_schedules.nd rfl (.inl rfl) (pe_lst (pa_cons (pe_tup (pa_cons (pe_tup pa_nil) (pa_cons pe_int pa_nil))) pa_nil)))
      (pss_cons (ps_for PassesOwn.never rfl (pi_range1 (by rfl) TX.b_range (pa_cons (pv 0) pa_nil)) (pg_name (i := 2) sc_L_s5_schedules.nd rfl (.inl rfl))
        (pss_cons (ps_set (i := 3) sc_L_s5_schedules.nd rfl (.inl rfl) (pe_lst pa_nil))
        (pss_cons (ps_for PassesOwn.never rfl (k_piL (K := K) rfl (pv 1)) (pg_tup rfl (pgs_cons (pg_name (i := 4) sc_L_s5_schedules.nd rfl (.inr rfl)) (pgs_cons (pg_name (i := 5) sc_L_s5_schedules.nd rfl (.inr rfl)) pgs_nil)))
          (pss_one (ps_expr (pe_bm PySem.F.plainAttrs_list PySem.F.slot_list_extend PySem.F.type_list_extend mt_extend (pv 3) (pa_cons (pe_lc (own := [("_law_taken", 6)]) (by rfl) sc_L_s5_schedules.nd (pi_range1 (by rfl) TX.b_range (pa_cons (pe_op op_add (pv 5) pe_int) pa_nil)) (blkOk_by (own := [("_law_taken", 6)]) (N := N_L_s5_schedules) (sc := defScope s_L_s5_schedules) (by decide +kernel)) (fun _ _ _ _ _ => (pg_name (i := 6) sc_L_s5_schedules.nd rfl (Or.inl rfl))) (fun _ _ _ _ _ => pts_nil) (fun _ _ _ _ _ => (pe_tup (pa_cons (pe_op (k_catT (K := K) rfl) (pv 4) (pe_tup (pa_cons (pv 6) pa_nil))) (pa_cons (pe_op op_sub (pe_op op_add (pv 5) pe_int) (pv 6)) pa_nil))))) pa_nil)))))
        (pss_one (ps_set (i := 1) sc_L_s5_schedules.nd rfl (.inl rfl) (pv 3))))))
      (pss_one (ps_ret (pe_lc (own := [("_law_plan", 4), ("_law_runs", 5)]) (by rfl) sc_L_s5_schedules.nd (k_piL (K := K) rfl (pv 1)) (blkOk_by (own := [("_law_plan", 4), ("_law_runs", 5)]) (N := N_L_s5_schedules) (sc := defScope s_L_s5_schedules) (by decide +kernel)) (fun _ _ _ _ _ => (k_pgT2 (K := K) rfl rfl (pg_name (i := 4) sc_L_s5_schedules.nd rfl (Or.inl rfl)) (pg_name (i := 5) sc_L_s5_schedules.nd rfl (Or.inl rfl)))) (fun _ _ _ _ _ => pts_nil) (fun _ _ _ _ _ => (pv 4))))))), ?_⟩
    refine ⟨sz60 (by simp), fun e1 ne1 => ⟨sz60 (by simp), fun t1 nt1 => ⟨sz60 (by simp), fun f0 nf0 => ?_⟩⟩⟩
    have z1 := same_upd (o := .tup []) ne1
    have z2 := same_upd (o := .tup [V.ref e1, V.int 0]) nt1
    have z3 := same_upd (o := .lst [V.ref t1]) nf0
    have g1 := z3 _ _ (z2 _ _ (upd_same (H := H) (a := e1) (o := .tup [])))
    have g2 := z3 _ _ (upd_same (H := upd H e1 (.tup [])) (a := t1) (o := .tup [V.ref e1, V.int 0]))
    have g3 := upd_same (H := upd (upd H e1 (.tup [])) t1 (.tup [V.ref e1, V.int 0])) (a := f0) (o := .lst [V.ref t1])
    have s03 := z1.trans (z2.trans z3)
    have nf0H : H f0 = none := (z1.trans z2).free nf0
    generalize upd (upd (upd H e1 _) t1 _) f0 _ = H0 at *
    clear z1 z2 z3
    refine ⟨_, rfl, _, rfl, by omega, by omega, for_range (lo := 0) (n := ((n : Nat) : Int).toNat) (fun x σ H' => ∃ y2 y3 y4 y5 y6 fl fs, σ = [some (.int (n : Int)), some (.ref fl), y2, y3, y4, y5, y6] ∧ Same H H' ∧ H fl = none ∧ H' fl = some (.lst fs) ∧ DpAll K H' fs ((schL x).map dSc)) ⟨_, _, _, _, _, f0, [V.ref t1], rfl, s03, nf0H, g3, .cons (.tup (.inl (.inl g2)) (.cons (.tup (.inl (.inl g1)) .nil) (.cons (.int 0) .nil))) .nil⟩ ?_ ?_⟩
    · rintro x σ G1 hx ⟨y2, y3, y4, y5, y6, fl, fs, rfl, s1, nfl, hfl, hfA⟩
      have hxn : x < n := by omega
      refine ⟨sz60 (by simp), fun lo nlo => ?_⟩
      have zl := same_upd (o := .lst []) nlo
      have hrn := DpAll.len hfA
      rw [List.length_map] at hrn
      have hr1 := schL_len x (by omega)
      have hr2 := schL_len (x + 1) (by omega)
      refine ⟨_, rfl, fl, rfl, ⟨_, .inl (.inl (zl _ _ hfl))⟩, for_list (K := K) (xs := fs) (fun i σ H' => ∃ y4 y5 y6 acc, σ = [some (.int (n : Int)), some (.ref fl), some (.int ((0 : Int) + (x : Int))), some (.ref lo), y4, y5, y6] ∧ Same G1 H' ∧ H' lo = some (.lst acc) ∧ DpAll K H' acc ((((schL x).take i).flatMap extS).map dSc)) ⟨_, _, _, [], rfl, zl, upd_same, .nil⟩ (fun i σ H' _ h => by obtain ⟨_, _, _, _, _, h, _⟩ := h; exact .inl (.inl (h _ _ hfl))) ?_ ?_⟩
      · rintro i v σ G2 hv ⟨y4, y5, y6, acc, rfl, s2, hlo, hac⟩
        have hi : i < fs.length := (List.getElem?_eq_some_iff.mp hv).1
        have hi2 : i < (schL x).length := by omega
        obtain ⟨v', hv', hD⟩ := DpAll.get (DpAll.same s2 hfA) (i := i) (d := dSc (schL x)[i]) (by rw [List.getElem?_map, List.getElem?_eq_getElem hi2]; rfl)
        rw [hv] at hv'
        cases hv'
        obtain ⟨k1, k2, k3⟩ := schL_ok x _ (List.getElem_mem hi2)
        obtain ⟨tt, tb, rfl, ht, htb⟩ := dSc_inv hD
        have hal := DpAll.len hac
        rw [List.length_map] at hal
        have etk : (schL x).take (i + 1) = (schL x).take i ++ [(schL x)[i]] := List.take_succ_eq_append_getElem hi2
        have htk1 := fm_take (l := schL x) (i + 1)
        have eN : (schL x).flatMap extS = schL (x + 1) := rfl
        rw [eN, etk, List.flatMap_append, List.length_append] at htk1
        have hrl := k1.sts.len x (by omega)
        generalize (schL x)[i] = st at ht htb etk htk1 k1 k2 k3 hrl
        obtain ⟨pl, r⟩ := st
        dsimp only at ht htb k1 k2 k3 hrl
        refine ⟨tt, _, rfl, ht, rfl, _, _, rfl, _, _, rfl, rfl, ?_⟩
        refine ⟨_, rfl, .inl ⟨rfl, _, .inl (.inl hlo)⟩, _, rfl, _, _, rfl, rfl, _, rfl, by omega, by omega, fun D nD => ?_⟩
        have eR : ((r : Int) + 1).toNat = r + 1 := by omega
        refine lc_all (K := K) walk_range ((extS (pl, r)).map dSc) (by simp [extS] <;> omega) (fun d hd => by obtain ⟨m, _, rfl⟩ := List.mem_map.mp hd; exact tf_dSc _) (by omega) nD (fun _ _ => trivial) ?_ ?_ (fun x σ' H' Q Q' h => h _ _) (fun σ' H' Q Q' h => h _ _)
        · rintro j y Hy Hy' hj sy hy d hd R hR
          obtain ⟨rfl, rfl⟩ := hy
          have hj2 : j < r + 1 := by omega
          have ej : (0 : Int) + ((j : Nat) : Int) = (j : Int) := by omega
          dsimp only
          rw [ej]
          unfold extS at hd
          rw [List.getElem?_map, List.getElem?_map, List.getElem?_range hj2] at hd
          cases hd
          refine ⟨rfl, rfl, _, rfl, _, rfl, sz60 (by simp), fun o no => ?_⟩
          have zo := same_upd (o := .tup [V.int (j : Int)]) no
          refine cat_read (Same.tup (sy.trans zo) htb) (.inl (.inl upd_same)) (by simp [vi]; omega) fun p6 H6 s6 h6 => ?_
          refine ⟨_, rfl, _, _, rfl, rfl, _, rfl, _, _, rfl, rfl, sz60 (by simp), fun t7 n7 => ?_⟩
          have z7 := same_upd (o := .tup [V.ref p6, V.int ((r : Int) + 1 - (j : Int))]) n7
          refine hR _ _ (zo.trans (s6.trans z7)) ?_
          have e : vi pl ++ [V.int (j : Int)] = vi (pl ++ [j]) := by rw [vi_app]; rfl
          rw [e, vi_ci] at h6
          have e2 : (r : Int) + 1 - (j : Int) = ((r + 1 - j : Nat) : Int) := by omega
          refine .tup (.inl (.inl upd_same)) (.cons (dp_tup (Same.tup z7 h6)) (.cons ?_ .nil))
          show Dp K _ (.int ((r : Int) + 1 - (j : Int))) (.int ((r + 1 - j : Nat) : Int))
          rw [e2]; exact .int _
        intro G3 acc3 s3 ha3 hA3
        have hal3 := DpAll.len hA3
        rw [List.length_map] at hal3
        have hel : (extS (pl, r)).length = r + 1 := by simp [extS]
        refine ⟨lo, D, acc, acc3, rfl, rfl, s3 _ _ hlo, ha3, sz60 (by omega), ?_⟩
        have hlo3 := s3 _ _ hlo
        refine ⟨_, _, _, acc ++ acc3, rfl, Same.mut (s2.trans s3) nlo, upd_same, ?_⟩
        rw [etk, List.flatMap_append, List.map_append]
        refine DpAll.keep (But.keep But.upd hlo3) (fun d hd => ?_) (DpAll.append (DpAll.same s3 hac) (by simpa using hA3))
        rcases List.mem_append.mp hd with hd | hd
        · obtain ⟨j, _, rfl⟩ := List.mem_map.mp hd
          exact tf_dSc _
        · obtain ⟨j, _, rfl⟩ := List.mem_map.mp hd
          exact tf_dSc _
      rintro σ G2 ⟨y4, y5, y6, acc, rfl, s2, hlo, hac⟩
      rw [List.take_of_length_le (by omega)] at hac
      refine ⟨_, rfl, _, _, _, _, _, lo, acc, rfl, s1.trans s2, s1.free nlo, hlo, hac⟩
    · rintro σ G1 ⟨y2, y3, y4, y5, y6, fl, fs, rfl, s1, nfl, hfl, hfA⟩
      rw [Int.toNat_natCast] at hfA
      have hrn := DpAll.len hfA
      rw [List.length_map] at hrn
      have hr1 := schL_len n hn
      refine ⟨.ref fl, rfl, fl, rfl, ⟨_, .inl (.inl hfl)⟩, fun D nD => ?_⟩
      refine lc_all (K := K) (walk_list (xs := fs)) ((schL n).map fun x => dPl x.1) (by rw [List.length_map, hrn]) (fun d hd => by obtain ⟨m, _, rfl⟩ := List.mem_map.mp hd; exact tf_dPl _) (by omega) nD (fun G s => .inl (.inl (s _ _ hfl))) ?_ ?_ mono_pair (fun σ' H' Q Q' h => h _ _)
      · rintro i x G5 G6 hi s5 ⟨rfl, hx⟩ d hd R hR
        have hi2 : i < (schL n).length := by omega
        obtain ⟨v', hv', hD⟩ := DpAll.get (DpAll.same s5 hfA) (i := i) (d := dSc (schL n)[i]) (by rw [List.getElem?_map, List.getElem?_eq_getElem hi2]; rfl)
        rw [hx] at hv'
        cases hv'
        rw [List.getElem?_map, List.getElem?_eq_getElem hi2] at hd
        cases hd
        obtain ⟨tt, tb, rfl, ht, htb⟩ := dSc_inv hD
        refine ⟨tt, _, rfl, ht, rfl, _, _, rfl, _, _, rfl, rfl, rfl, rfl, _, rfl, hR _ _ (Same.refl _) (dp_tup (by rw [← vi_ci]; exact htb))⟩
      · intro G5 acc s5 hD5 hA5
        exact q _ D acc (s1.trans s5) (s1.free nD) hD5 hA5
end
theorem two_list (d : PyData) : (PyData.list [d, d]).shown = (((Str.ofString "[" ++ d.shown) ++ Str.ofString ", ") ++ d.shown) ++ Str.ofString "]" := by
  simp only [PyData.shown]
  show ((((Str.ofString "[" ++ Str.ofString "") ++ d.shown) ++ Str.ofString ", ") ++ d.shown) ++ Str.ofString "]" = _
  have e : (Str.ofString "[" ++ Str.ofString "") = Str.ofString "[" := by decide +kernel
  rw [e]
theorem Sn.len {k n : Nat} {d : PyData} (h : Sn k n d) : d.shown.length ≤ 62 * n + 60 := by
  have h1 := PyData.shown_le_bulk 60 (by decide) d h.short
  have h3 : (60 + 2) * d.bulk ≤ 62 * n := Nat.mul_le_mul (Nat.le_refl _) h.bulk
  omega
theorem stf_le {p : List Nat} (h : Good p) : ∀ i, i ≤ p.length → ∀ x, x ∈ stf p i → x ≤ i := fun i => by
  induction i with
  | zero => intro _ x hx; rw [stf_zero] at hx; cases hx
  | succ i ih =>
    intro hi x hx
    have hm := List.getElem?_eq_getElem (show i < p.length by omega)
    rw [stf_succ hm] at hx
    have ih' := ih (by omega)
    unfold sa at hx
    rcases List.mem_append.mp hx with hx | hx
    · have := ih' x (List.mem_of_mem_take hx); omega
    · have e : x = 1 + mx ((stf p i).drop ((stf p i).length - p[i])) := by simpa using hx
      have h2 : mx ((stf p i).drop ((stf p i).length - p[i])) ≤ i := mx_le fun y hy => ih' y (List.mem_of_mem_drop hy)
      omega
theorem good_le {p : List Nat} (h : Good p) : ∀ x, x ∈ p → x ≤ p.length := fun x hx => by
  obtain ⟨i, hi, e⟩ := List.getElem_of_mem hx
  have h1 := h i x (by rw [List.getElem?_eq_getElem hi, e])
  have h2 := h.sts.len i (by omega)
  omega
section
variable {P : Program} {w : World} {K : PySem.W.Frag} {mg : Str → Option Value} {base : Heap}
def sp_law (K : PySem.W.Frag) (cs : List (Addr × Addr)) : Sp := fun vs H Q _ => ∃ (a : Addr) (ns : List Int) (o : HO), vs = [.ref a] ∧ SqL K H a (ns.map V.int) ∧ ns.length ≤ 63 ∧ H sysModules = some o ∧ (∀ ps, o ≠ .tbl ps) ∧ (∀ p ∈ cs, H p.2 = some (.tbl #[])) ∧ ∀ H', Q (.bl true) H'
theorem nth2 {n : Nat} (x : List V) (h : x.length = n) (i : Nat) (hi : i < (if (if (x.length : Int) < 2 then (x.length : Int) else 2) > 1 then (if (x.length : Int) < 2 then (x.length : Int) else 2) else 1 : Int).toNat) : i ≤ 62 := by
  have : (if (if (x.length : Int) < 2 then (x.length : Int) else 2) > 1 then (if (x.length : Int) < 2 then (x.length : Int) else 2) else 1) ≤ 3 := by split <;> split <;> omega
  omega
theorem ok_law (TX : Tx K mg) (TB : LamX.TabB base mg TX.cdl TX.ptl) : FnG P w K mg base CX0 8 TX.a_law TX.fd_law ["_law_script"] (sp_law K [(TX.cdl, TX.ptl)]) := by
  obtain ⟨oc, od, kV, doc, pm, an, ct, osl, efd, lk, hcd⟩ := TX.lawc
  rw [efd] at lk ⊢
  refine fnG_of lk hcd sc_law (fun vs H Q E h => ?_) (fun A hgd outer s H vs Q E hr h => ?_)
  · obtain ⟨a, ns, o, rfl, _⟩ := h; rfl
  · obtain ⟨a, ns, o, rfl, hS, hlen, hsys, hot, htab, q⟩ := h
    suffices hh : ∃ t, PSs (lawX P w K mg base TX.a_law (.ref TX.cdl) A outer s H E) (defBody s_law) t ∧ t { nx := fun _ H' => Q .non H', rt := Q } (start N_law [.ref a]) H from (let ⟨t, h1, h2⟩ := hh; ⟨t, h1.nox, h2⟩)
    refine ⟨_, (pss_cons (ps_for PassesOwn.never rfl (pi_range1 (by rfl) TX.b_range (pa_cons pe_int pa_nil)) (pg_name (i := 1) sc_law.nd rfl (.inl rfl))
        (pss_one (ps_for PassesOwn.never rfl (k_piL (K := K) rfl (pe_call (ok_L_s5_schedules TX) (hr.mono (by decide)) (by rfl) TX.g_L_s5_schedules TX.f_L_s5_schedules.kp TX.bd_L_s5_schedules .nil pass0 (pa_cons (pv 1) pa_nil))) (pg_name (i := 2) sc_law.nd rfl (.inl rfl))
          (pss_one (ps_if (pt_cmpR op_ne (pe_callB (id := "repr") (k_reprQ (K := K) rfl hgd hr.units) (by rfl) TX.b_repr (by decide +kernel) (pa_cons (pe_call (ok_state_ofN TX) (hr.mono (by decide)) (by rfl) TX.g_state_of TX.f_state_of.kp TX.bd_state_of .nil pass0 (pa_cons (pv 2) pa_nil)) pa_nil)) (pe_callB (id := "repr") (k_reprQ (K := K) rfl hgd hr.units) (by rfl) TX.b_repr (by decide +kernel) (pa_cons (pe_call (ok_L_s5_state_of TX) (hr.mono (by decide)) (by rfl) TX.g_L_s5_state_of TX.f_L_s5_state_of.kp TX.bd_L_s5_state_of .nil pass0 (pa_cons (pv 2) pa_nil)) pa_nil)) (nomark _))
            (pss_one (ps_ret pe_bl))
            pss_nil)))))
      (pss_cons (ps_for PassesOwn.never rfl (pi_range1 (by rfl) TX.b_range (pa_cons (pe_callB (id := "max") (call_max2 rfl) (by rfl) TX.b_max (by decide +kernel) (pa_cons pe_int (pa_cons (pe_callB (id := "min") (call_min2 rfl) (by rfl) TX.b_min (by decide +kernel) (pa_cons pe_int (pa_cons (pe_callB (id := "len") (k_len (K := K) rfl) (by rfl) TX.b_len (by decide +kernel) (pa_cons (pv 0) pa_nil)) pa_nil))) pa_nil))) pa_nil)) (pg_name (i := 3) sc_law.nd rfl (.inl rfl))
        (pss_cons (ps_set (i := 4) sc_law.nd rfl (.inl rfl) (pe_call (ok_L_s5_hand TX) (hr.mono (by decide)) (by rfl) TX.g_L_s5_hand TX.f_L_s5_hand.kp TX.bd_L_s5_hand .nil pass0 (pa_cons (pv 0) (pa_cons (pv 3) pa_nil))))
        (pss_one (ps_for PassesOwn.never rfl (pi_range1 (by rfl) TX.b_range (pa_cons pe_int pa_nil)) (pg_name (i := 5) sc_law.nd rfl (.inl rfl))
          (pss_cons (ps_set (i := 2) sc_law.nd rfl (.inl rfl) (pe_call (ok_L_s5_schedule TX) (hr.mono (by decide)) (by rfl) TX.g_L_s5_schedule TX.f_L_s5_schedule.kp TX.bd_L_s5_schedule .nil pass0 (pa_cons (pv 4) (pa_cons (pe_call (ok_L_s5_of TX) (hr.mono (by decide)) (by rfl) TX.g_L_s5_of TX.f_L_s5_of.kp TX.bd_L_s5_of .nil pass0 (pa_cons (pv 4) (pa_cons (pe_lst (pa_cons pe_int (pa_cons pe_int (pa_cons pe_int (pa_cons (pe_call (ok_L_s5_take TX) (hr.mono (by decide)) (by rfl) TX.g_L_s5_take TX.f_L_s5_take.kp TX.bd_L_s5_take .nil pass0 (pa_cons (pv 4) (pa_cons pe_int pa_nil))) pa_nil))))) pa_nil))) pa_nil))))
          (pss_cons (ps_set (i := 6) sc_law.nd rfl (.inl rfl) (pe_callB (id := "repr") (k_reprQ (K := K) rfl hgd hr.units) (by rfl) TX.b_repr (by decide +kernel) (pa_cons (pe_call (ok_L_s5_state_of TX) (hr.mono (by decide)) (by rfl) TX.g_L_s5_state_of TX.f_L_s5_state_of.kp TX.bd_L_s5_state_of .nil pass0 (pa_cons (pv 2) pa_nil)) pa_nil)))
          (pss_cons (ps_if (pt_cmpR op_ne (pe_callB (id := "repr") (k_reprQ (K := K) rfl hgd hr.units) (by rfl) TX.b_repr (by decide +kernel) (pa_cons (pe_lst (pa_cons (pe_call (ok_state_ofN TX) (hr.mono (by decide)) (by rfl) TX.g_state_of TX.f_state_of.kp TX.bd_state_of .nil pass0 (pa_cons (pv 2) pa_nil)) (pa_cons (pe_callK0 (ok_state_ofN TX) (hr.mono (by decide)) (by rfl) TX.g_state_of TX.f_state_of.kp TX.kb_state_of_schedule pass0 (pk_cons (pv 2) pk_nil)) pa_nil))) pa_nil)) (pe_op op_add_str (pe_op op_add_str (pe_op op_add_str (pe_op op_add_str pe_str (pv 6)) pe_str) (pv 6)) pe_str) (nomark _))
            (pss_one (ps_ret pe_bl))
            pss_nil)
          (pss_cons (ps_set (i := 7) sc_law.nd rfl (.inr rfl) (pe_call (ok_L_s5_of TX) (hr.mono (by decide)) (by rfl) TX.g_L_s5_of TX.f_L_s5_of.kp TX.bd_L_s5_of .nil pass0 (pa_cons (pv 4) (pa_cons (pe_call (ok_L_s5_bad TX) (hr.mono (by decide)) (by rfl) TX.g_L_s5_bad TX.f_L_s5_bad.kp TX.bd_L_s5_bad .nil pass0 (pa_cons (pv 4) (pa_cons (pe_slice (k_slT (K := K) rfl) (pv 2) po_none (po_some pe_int)) pa_nil))) pa_nil))))
          (pss_one (ps_if (pt_cmpR op_ne (pe_callB (id := "repr") (k_reprQ (K := K) rfl hgd hr.units) (by rfl) TX.b_repr (by decide +kernel) (pa_cons (pe_met (n := 5) TX TB (hr.mono (by decide)) (LamX.lamS_by (by decide +kernel)) rfl (fun _ _ _ _ _ => rfl) (fun _ _ _ _ _ _ _ hr => (pe_call (ok_state_of TX) (hr.mono (by decide)) (by rfl) TX.g_state_of TX.f_state_of.kp TX.bd_state_of .nil passLw (pa_cons (pv 7) pa_nil)))) pa_nil)) (pe_callB (id := "repr") (k_reprQ (K := K) rfl hgd hr.units) (by rfl) TX.b_repr (by decide +kernel) (pa_cons (pe_tup (pa_cons pe_str (pa_cons (pv 7) pa_nil))) pa_nil)) (nomark _))
            (pss_one (ps_ret pe_bl))
            pss_nil))))))))))
      (pss_one (ps_ret pe_bl)))), ?_⟩
    generalize eqq : (lawX P w K mg base TX.a_law (Value.ref TX.cdl) A outer s H E).env.qual ++ Str.ofString "<lambda>" = qq
    have tb0 : LamX.Tabs [(TX.ptl, qq)] H := fun p hp => by
      rw [List.mem_singleton.mp hp]
      exact LamX.TabS.nil (htab _ (List.mem_singleton.mpr rfl))
    have dqn : ∀ {G : Hp} {u : Addr} {st : List Nat}, SqT K G u (vi st) → Dq K G (.ref u) (.tuple ((ci st).map PyData.int)) := fun h => .tupq h (dqInts _)
    have snn : ∀ {pl : List Nat}, Good pl → pl.length ≤ 60 → Sn 2 1000 (.tuple ((ci (stf pl pl.length)).map PyData.int)) := fun {pl} hg hl => by
      have h1 := hg.sts.len pl.length (Nat.le_refl _)
      exact (Sn.tupl (n := 0) (k := 0) (m := 600) (Sn.nats fun x hx => by have := stf_le hg _ (Nat.le_refl _) x hx; omega) (by simp [ci]; omega)).mono (by omega) (by omega)
    -- the small ones
    refine ⟨_, rfl, by decide, by decide, for_range (lo := 0) (n := 6) (fun i σ G => ∃ y1 y2 y3 y4 y5 y6 y7, σ = [some (.ref a), y1, y2, y3, y4, y5, y6, y7] ∧ Same H G) ⟨_, _, _, _, _, _, _, rfl, .refl _⟩ ?_ ?_⟩
    · rintro i σ G hi ⟨y1, y2, y3, y4, y5, y6, y7, rfl, s1⟩
      have hi6 : i < 6 := hi
      have ei : (0 : Int) + (i : Nat) = (i : Int) := by omega
      rw [ei]
      refine ⟨_, rfl, i, rfl, by omega, fun G1 l us s2 nl hl hus => ⟨l, rfl, ⟨_, .inl (.inl hl)⟩, for_list (K := K) (xs := us) (fun j σ G' => ∃ y2, σ = [some (.ref a), some (.int (i : Int)), y2, y3, y4, y5, y6, y7] ∧ Same G1 G') ⟨_, rfl, .refl _⟩ (fun j σ G' _ h => by obtain ⟨_, _, h⟩ := h; exact .inl (.inl (h _ _ hl))) ?_ ?_⟩⟩
      · rintro j v σ G2 hv ⟨y2, rfl, s3⟩
        have hjl : j < (schL i).length := by
          have h1 := DpAll.len hus
          rw [List.length_map] at h1
          have := (List.getElem?_eq_some_iff.mp hv).1
          omega
        obtain ⟨v', hv', hd⟩ := DpAll.get (DpAll.same s3 hus) (i := j) (d := dPl (schL i)[j].1) (by rw [List.getElem?_map, List.getElem?_eq_getElem hjl]; rfl)
        rw [hv] at hv'
        cases hv'
        obtain ⟨hg, hpl, _⟩ := schL_ok i _ (List.getElem_mem hjl)
        obtain ⟨tb, rfl, htb⟩ := Dp.intsInv hd
        rw [← vi_ci] at htb
        generalize (schL i)[j].1 = pl at hg hpl htb
        have hsn := snn hg (by omega)
        obtain ⟨v1, v2, v3⟩ := hsn.repr (by decide) (by decide)
        refine ⟨.ref tb, rfl, tb, pl, stf pl, rfl, htb, by omega, hg.sts.1, hg.sts.2, fun G3 q1 s4 hq1 => ⟨.ref q1, _, rfl, dqn hq1, v1, v2, v3, ?_⟩⟩
        refine ⟨.ref tb, rfl, tb, pl, stf pl, rfl, Same.tup s4 htb, by omega, hg.sts, fun G4 q2 s5 hq2 => ⟨.ref q2, _, rfl, dqn hq2, v1, v2, v3, rfl, false, by simp, iteF ?_⟩⟩
        exact ⟨_, rfl, s3.trans (s4.trans s5)⟩
      · rintro σ G2 ⟨y2, rfl, s3⟩
        exact ⟨_, _, _, _, _, _, _, rfl, s1.trans (s2.trans s3)⟩
    rintro σ G0 ⟨y1, y2, y3, y4, y5, y6, y7, rfl, s01⟩
    have hS0 := Same.seq s01 hS
    have hsys0 := s01 _ _ hsys
    have tb00 := Tabs.same tb0 s01
    clear htab hS hsys tb0 s01
    refine ⟨.ref a, rfl, a, _, rfl, .inl hS0, _, _, rfl, _, _, rfl, _, rfl, ?_, ?_, ?_⟩
    · split <;> split <;> omega
    · split <;> split <;> omega
    refine for_range (lo := 0) (fun i σ G2 => ∃ y1 y2 y3 y4 y5 y6 y7, σ = [some (.ref a), y1, y2, y3, y4, y5, y6, y7] ∧ LamX.ExtN G0 G2 ∧ LamX.Tabs [(TX.ptl, qq)] G2) ⟨_, _, _, _, _, _, _, rfl, .refl _, tb00⟩ ?_ (fun σ H' _ => q H')
    rintro i σ G1 hi ⟨y1, y2, y3, y4, y5, y6, y7, rfl, x1, tb3⟩
    have hi2 : i ≤ 62 := nth2 _ rfl i hi
    have ei : (0 : Int) + (i : Nat) = (i : Int) := by omega
    rw [ei]
    refine ⟨.ref a, rfl, _, rfl, a, ns, i, rfl, extN_seq x1 hS0, hi2, fun G2 p s2 np pp => ?_⟩
    have tb4 := Tabs.same tb3 s2
    have nps : p ≠ sysModules := fun z => by rw [z, x1 _ _ hsys0 hot] at np; cases np
    have hsysG1 := x1 _ _ hsys0 hot
    refine ⟨_, rfl, by decide, by decide, for_range (lo := 0) (n := 6) (fun j σ G' => ∃ y1 y2 y5 y6 y7, σ = [some (.ref a), y1, y2, some (.int (i : Int)), some (.ref p), y5, y6, y7] ∧ ButN p G1 G' ∧ Pot G' p (200 * (j : Int)) ∧ LamX.Tabs [(TX.ptl, qq)] G') ⟨_, _, _, _, _, rfl, .same s2, pp.mono (by omega), tb4⟩ ?_ ?_⟩
    rotate_left
    · rintro σ G' ⟨y1, y2, y5, y6, y7, rfl, b6, p6, tb6⟩
      exact ⟨_, _, _, _, _, _, _, rfl, ButN.out1 x1 b6 np, tb6⟩
    rintro j σ G' hj ⟨y1, y2, y5, y6, y7, rfl, b6, p6, tb6⟩
    have hj6 : j < 6 := hj
    have hsysG : G' sysModules = some o := b6 _ _ (Ne.symm nps) hsysG1 hot
    refine ⟨.ref p, rfl, .ref p, rfl, .ref p, rfl, p, 61, _, rfl, p6, by omega, by decide, by decide, fun H1 r1 b1 q1 r10 r11 => ⟨sz60 (by simp), fun l1 nl1 => ?_⟩⟩
    have z1 := same_upd (o := .lst [V.int 7, V.int 20, V.int 60, V.int r1]) nl1
    refine ⟨p, l1, _, _, rfl, q1.same z1, by omega, .inl (.inl upd_same), q1.ne nl1, by simp, by simp, fun H2 v1 b2 q2 hv1 => ?_⟩
    obtain ⟨k, rfl, hk⟩ : ∃ k : Nat, v1 = .int (k : Int) ∧ k ≤ 60 := by
      simp only [List.mem_cons, List.not_mem_nil, or_false] at hv1
      rcases hv1 with rfl | rfl | rfl | rfl
      · exact ⟨7, rfl, by decide⟩
      · exact ⟨20, rfl, by decide⟩
      · exact ⟨60, rfl, by decide⟩
      · exact ⟨r1.toNat, by rw [show (r1.toNat : Int) = r1 by omega], by omega⟩
    refine ⟨p, k, _, rfl, q2, by omega, by omega, fun H3 pa pl b3 q3 hpl hg hpa => ?_⟩
    have b13 : But p G' H3 := b1.trans ((But.of z1).trans (b2.trans b3))
    clear z1 b1 b2 b3 q1 q2 nl1 hv1
    have hsn := snn hg (by omega)
    obtain ⟨v1, v2, v3⟩ := hsn.repr (by decide) (by decide)
    have hln := hsn.len
    refine ⟨.ref pa, rfl, pa, pl, stf pl, rfl, hpa, by omega, hg.sts, fun H4 u1 s4 hu1 => ⟨.ref u1, _, rfl, dqn hu1, v1, v2, v3, ?_⟩⟩
    obtain ⟨dd, hdd⟩ : ∃ dd : PyData, dd = .tuple ((ci (stf pl pl.length)).map PyData.int) := ⟨_, rfl⟩
    rw [← hdd] at hsn v1 v2 v3 hln
    refine ⟨.ref pa, rfl, pa, pl, stf pl, rfl, Same.tup s4 hpa, by omega, hg.sts.1, hg.sts.2, fun H5 u2 s5 hu2 => ?_⟩
    refine ⟨_, rfl, pa, pl, stf pl, rfl, Same.tup (s4.trans s5) hpa, by omega, hg.sts.1, hg.sts.2, fun H6 u3 s6 hu3 => ⟨sz60 (by simp), fun l7 n7 => ?_⟩⟩
    have z7 := same_upd (o := .lst [V.ref u2, V.ref u3]) n7
    have s37 := s4.trans (s5.trans (s6.trans z7))
    have b37 := b13.trans (But.of s37)
    have nsl : l7 ≠ sysModules := fun z => by
      have := (b13.trans (But.of (s4.trans (s5.trans s6)))) _ _ (Ne.symm nps) hsysG
      rw [z, this] at n7; cases n7
    have q7 := q3.same s37
    have hpa7 := Same.tup s37 hpa
    have hl7 : Sn 3 5000 (.list [dd, dd]) := (Sn.lstl (n := 1000) (k := 2) (m := 5000) (fun d hd => by
      simp only [List.mem_cons, List.not_mem_nil, or_false, or_self] at hd
      rw [hd]; exact hsn) (by simp)).mono (by omega) (by omega)
    obtain ⟨w1, w2, w3⟩ := hl7.repr (by decide) (by decide)
    have hq7 : Dq K (upd H6 l7 (.lst [V.ref u2, V.ref u3])) (.ref l7) (.list [dd, dd]) := by
      rw [hdd]
      exact .lstq (.inl (.inl upd_same)) nsl (.cons (dqn (Same.tup (s6.trans z7) hu2)) (.cons (dqn (Same.tup z7 hu3)) .nil))
    refine ⟨.ref l7, _, rfl, hq7, w1, w2, w3, ?_⟩
    have h24 : sizeLine = 16777216 := by decide
    have la : ∀ (a b : Str), (a ++ b).length = a.length + b.length := strLen_append
    have l1 : (Str.ofString "[").length = 1 := by decide +kernel
    have l2 : (Str.ofString ", ").length = 2 := by decide +kernel
    have l3 : (Str.ofString "]").length = 1 := by decide +kernel
    refine ⟨.str dd.shown, by rw [hdd]; rfl, _, _, rfl, rfl, by rw [l1]; omega, ?_⟩
    refine ⟨_, _, rfl, rfl, by rw [la, l1, l2]; omega, ?_⟩
    refine ⟨.str dd.shown, by rw [hdd]; rfl, _, _, rfl, rfl, by rw [la, la, l1, l2]; omega, ?_⟩
    refine ⟨_, _, rfl, rfl, by rw [la, la, la, l1, l2, l3]; omega, ?_⟩
    refine ⟨rfl, false, by rw [two_list]; simp, iteF ?_⟩
    -- a value that is no schedule
    have hsysG7 := b37 _ _ (Ne.symm nps) hsysG
    generalize upd H6 l7 _ = H7 at *
    refine ⟨.ref p, rfl, .ref p, rfl, .ref pa, rfl, _, rfl, ?_⟩
    dsimp only [tNoPart]
    refine sl_read hpa7 fun c8 H8 s8 h8 => ?_
    have e20 : ∃ m : Nat, m ≤ pl.length ∧ m ≤ 20 ∧ cutV (vi pl) none (some 20) = vi (pl.take m) := by
      by_cases h : 20 ≤ pl.length
      · exact ⟨20, h, by omega, cutV_to (p := pl) (m := 20) h⟩
      · refine ⟨pl.length, Nat.le_refl _, by omega, ?_⟩
        rw [List.take_length]
        unfold cutV
        have e : ((20 : Int)) = ((20 : Nat) : Int) := rfl
        rw [HT.sIx_none, e, HT.sIx_nat, Nat.min_eq_right (by rw [vi_len]; omega)]
        simp
    obtain ⟨m, hm1, hm2, em⟩ := e20
    rw [em] at h8
    have hle := good_le hg
    refine ⟨p, c8, pl.take m, _, o, rfl, q7.same s8, by omega, h8, by rw [List.length_take]; omega, fun x hx => by have := hle x (List.mem_of_mem_take hx); omega, s8 _ _ hsysG7, nps, fun H9 l9 xs9 b9 q9 hl9 hl9p hx9 hall => ?_⟩
    refine ⟨p, l9, xs9, _, rfl, q9, by omega, .inl (.inl hl9), hl9p, (fun z => by rw [z] at hx9; cases hx9), by omega, fun H10 v b10 q10 hv => ?_⟩
    obtain ⟨d, hd, hsd, hbd⟩ := hall v hv
    have hd10 := Dq.same (off_but b10) hd
    have b10' : But p G' H10 := b37.trans ((But.of s8).trans (b9.trans b10))
    have tb10 := p6.tabs tb6 b10'
    have hsp : Sn 3 2000 (.tuple [.str "plan", d]) := (Sn.t2 (Sn.str (k := 2) (n := 10) (by decide +kernel) (by decide +kernel)) hsd).mono (by omega) (by omega)
    obtain ⟨g1, g2, g3⟩ := hsp.repr (by decide) (by decide)
    have mv : ∀ {G H : Hp} {v : V} {d : PyData}, LamX.ExtN G H → Dq K (off p G) v d → Dq K (off p H) v d := fun s h => Dq.extN (off_extN s) h
    clear hall hv hd b9 b10 hq7 w1 w2 w3 hl7
    refine ⟨tb10, fun H15 x15 tb15 H16 s16 E' R hE hR => ?_⟩
    have x16 := x15.trans (LamX.ExtN.of s16)
    refine ⟨_, rfl, v, d, rfl, Dq.same off_sub (mv x16 hd10), hbd, fun xd H17 s17 hxd => hE 4 TX.c_InvalidSchedule xd "plan" v H17 rfl rfl hxd fun H18 t s18 ht => ?_⟩
    have x18 := x16.trans (LamX.ExtN.of (s17.trans s18))
    have dqp : ∀ {G : Hp} {u : Addr}, LamX.ExtN H10 G → G u = some (.tup [.str "plan", v]) → Dq K G (.ref u) (.tuple [.str "plan", d]) := fun x h => .tupq (.inl (.inl h)) (.cons (.strq _) (.cons (Dq.same off_sub (mv x hd10)) .nil))
    refine ⟨.ref t, _, rfl, dqp x18 ht, g1, g2, g3, ?_⟩
    refine ⟨_, rfl, sz60 (by simp), fun t2 n2 => ?_⟩
    have z2 := same_upd (o := .tup [V.str "plan", v]) n2
    have x19 := x18.trans (LamX.ExtN.of z2)
    refine ⟨.ref t2, _, rfl, dqp x19 upd_same, g1, g2, g3, rfl, false, by simp, iteF ?_⟩
    exact ⟨_, _, _, _, _, rfl, b6.trans ((ButN.of b10').trans (.ext x19)), (q10.ext x19).mono (by omega), Tabs.same tb15 (s16.trans (s17.trans (s18.trans z2)))⟩
end
theorem all_mk {l : PySem.W.OpenLaw} {w : World} {K : PySem.W.Frag} {h : Heap} {mg : Str → Option Value} {fa : Addr} (X : K.In h) (G : h.Ns mainGlobals mg) (hfa : mg "law" = some (.ref fa))
    {f_is_int : Addr} {od_is_int an_is_int : Option Addr} {sl_is_int : Array (Option Value)} {oc_is_int kV_is_int dc_is_int pm_is_int cd_is_int ct_is_int : Value}
    (a_is_int : PySem.W.nsIn K mainGlobals "is_int" = some (some (.ref f_is_int))) (l_is_int : K.lookup f_is_int = some ⟨oc_is_int, od_is_int, .func (PySem.W.fnOf "is_int" "is_int" (defArgs s_is_int) (defBody s_is_int) (defScope s_is_int) .none kV_is_int dc_is_int pm_is_int an_is_int cd_is_int ct_is_int), sl_is_int⟩) (c_is_int : PySem.W.codeIn K cd_is_int "is_int" = true) (k_is_int : PySem.W.keepIn K (.ref f_is_int) = true)
    {f_is_count : Addr} {od_is_count an_is_count : Option Addr} {sl_is_count : Array (Option Value)} {oc_is_count kV_is_count dc_is_count pm_is_count cd_is_count ct_is_count : Value}
    (a_is_count : PySem.W.nsIn K mainGlobals "is_count" = some (some (.ref f_is_count))) (l_is_count : K.lookup f_is_count = some ⟨oc_is_count, od_is_count, .func (PySem.W.fnOf "is_count" "is_count" (defArgs s_is_count) (defBody s_is_count) (defScope s_is_count) .none kV_is_count dc_is_count pm_is_count an_is_count cd_is_count ct_is_count), sl_is_count⟩) (c_is_count : PySem.W.codeIn K cd_is_count "is_count" = true) (k_is_count : PySem.W.keepIn K (.ref f_is_count) = true)
    {f_is_count_up_to : Addr} {od_is_count_up_to an_is_count_up_to : Option Addr} {sl_is_count_up_to : Array (Option Value)} {oc_is_count_up_to kV_is_count_up_to dc_is_count_up_to pm_is_count_up_to cd_is_count_up_to ct_is_count_up_to : Value}
    (a_is_count_up_to : PySem.W.nsIn K mainGlobals "is_count_up_to" = some (some (.ref f_is_count_up_to))) (l_is_count_up_to : K.lookup f_is_count_up_to = some ⟨oc_is_count_up_to, od_is_count_up_to, .func (PySem.W.fnOf "is_count_up_to" "is_count_up_to" (defArgs s_is_count_up_to) (defBody s_is_count_up_to) (defScope s_is_count_up_to) .none kV_is_count_up_to dc_is_count_up_to pm_is_count_up_to an_is_count_up_to cd_is_count_up_to ct_is_count_up_to), sl_is_count_up_to⟩) (c_is_count_up_to : PySem.W.codeIn K cd_is_count_up_to "is_count_up_to" = true) (k_is_count_up_to : PySem.W.keepIn K (.ref f_is_count_up_to) = true)
    {f_is_schedule : Addr} {od_is_schedule an_is_schedule : Option Addr} {sl_is_schedule : Array (Option Value)} {oc_is_schedule kV_is_schedule dc_is_schedule pm_is_schedule cd_is_schedule ct_is_schedule : Value}
    (a_is_schedule : PySem.W.nsIn K mainGlobals "is_schedule" = some (some (.ref f_is_schedule))) (l_is_schedule : K.lookup f_is_schedule = some ⟨oc_is_schedule, od_is_schedule, .func (PySem.W.fnOf "is_schedule" "is_schedule" (defArgs s_is_schedule) (defBody s_is_schedule) (defScope s_is_schedule) .none kV_is_schedule dc_is_schedule pm_is_schedule an_is_schedule cd_is_schedule ct_is_schedule), sl_is_schedule⟩) (c_is_schedule : PySem.W.codeIn K cd_is_schedule "is_schedule" = true) (k_is_schedule : PySem.W.keepIn K (.ref f_is_schedule) = true)
    {f_state_of : Addr} {od_state_of an_state_of : Option Addr} {sl_state_of : Array (Option Value)} {oc_state_of kV_state_of dc_state_of pm_state_of cd_state_of ct_state_of : Value}
    (a_state_of : PySem.W.nsIn K mainGlobals "state_of" = some (some (.ref f_state_of))) (l_state_of : K.lookup f_state_of = some ⟨oc_state_of, od_state_of, .func (PySem.W.fnOf "state_of" "state_of" (defArgs s_state_of) (defBody s_state_of) (defScope s_state_of) .none kV_state_of dc_state_of pm_state_of an_state_of cd_state_of ct_state_of), sl_state_of⟩) (c_state_of : PySem.W.codeIn K cd_state_of "state_of" = true) (k_state_of : PySem.W.keepIn K (.ref f_state_of) = true)
    {f_state_after : Addr} {od_state_after an_state_after : Option Addr} {sl_state_after : Array (Option Value)} {oc_state_after kV_state_after dc_state_after pm_state_after cd_state_after ct_state_after : Value}
    (a_state_after : PySem.W.nsIn K mainGlobals "state_after" = some (some (.ref f_state_after))) (l_state_after : K.lookup f_state_after = some ⟨oc_state_after, od_state_after, .func (PySem.W.fnOf "state_after" "state_after" (defArgs s_state_after) (defBody s_state_after) (defScope s_state_after) .none kV_state_after dc_state_after pm_state_after an_state_after cd_state_after ct_state_after), sl_state_after⟩) (c_state_after : PySem.W.codeIn K cd_state_after "state_after" = true) (k_state_after : PySem.W.keepIn K (.ref f_state_after) = true)
    {f_L_s5_hand : Addr} {od_L_s5_hand an_L_s5_hand : Option Addr} {sl_L_s5_hand : Array (Option Value)} {oc_L_s5_hand kV_L_s5_hand dc_L_s5_hand pm_L_s5_hand cd_L_s5_hand ct_L_s5_hand : Value}
    (a_L_s5_hand : PySem.W.nsIn K mainGlobals "_law_s5_hand" = some (some (.ref f_L_s5_hand))) (l_L_s5_hand : K.lookup f_L_s5_hand = some ⟨oc_L_s5_hand, od_L_s5_hand, .func (PySem.W.fnOf "_law_s5_hand" "_law_s5_hand" (defArgs s_L_s5_hand) (defBody s_L_s5_hand) (defScope s_L_s5_hand) .none kV_L_s5_hand dc_L_s5_hand pm_L_s5_hand an_L_s5_hand cd_L_s5_hand ct_L_s5_hand), sl_L_s5_hand⟩) (c_L_s5_hand : PySem.W.codeIn K cd_L_s5_hand "_law_s5_hand" = true) (k_L_s5_hand : PySem.W.keepIn K (.ref f_L_s5_hand) = true)
    {f_L_s5_take : Addr} {od_L_s5_take an_L_s5_take : Option Addr} {sl_L_s5_take : Array (Option Value)} {oc_L_s5_take kV_L_s5_take dc_L_s5_take pm_L_s5_take cd_L_s5_take ct_L_s5_take : Value}
    (a_L_s5_take : PySem.W.nsIn K mainGlobals "_law_s5_take" = some (some (.ref f_L_s5_take))) (l_L_s5_take : K.lookup f_L_s5_take = some ⟨oc_L_s5_take, od_L_s5_take, .func (PySem.W.fnOf "_law_s5_take" "_law_s5_take" (defArgs s_L_s5_take) (defBody s_L_s5_take) (defScope s_L_s5_take) .none kV_L_s5_take dc_L_s5_take pm_L_s5_take an_L_s5_take cd_L_s5_take ct_L_s5_take), sl_L_s5_take⟩) (c_L_s5_take : PySem.W.codeIn K cd_L_s5_take "_law_s5_take" = true) (k_L_s5_take : PySem.W.keepIn K (.ref f_L_s5_take) = true)
    {f_L_s5_of : Addr} {od_L_s5_of an_L_s5_of : Option Addr} {sl_L_s5_of : Array (Option Value)} {oc_L_s5_of kV_L_s5_of dc_L_s5_of pm_L_s5_of cd_L_s5_of ct_L_s5_of : Value}
    (a_L_s5_of : PySem.W.nsIn K mainGlobals "_law_s5_of" = some (some (.ref f_L_s5_of))) (l_L_s5_of : K.lookup f_L_s5_of = some ⟨oc_L_s5_of, od_L_s5_of, .func (PySem.W.fnOf "_law_s5_of" "_law_s5_of" (defArgs s_L_s5_of) (defBody s_L_s5_of) (defScope s_L_s5_of) .none kV_L_s5_of dc_L_s5_of pm_L_s5_of an_L_s5_of cd_L_s5_of ct_L_s5_of), sl_L_s5_of⟩) (c_L_s5_of : PySem.W.codeIn K cd_L_s5_of "_law_s5_of" = true) (k_L_s5_of : PySem.W.keepIn K (.ref f_L_s5_of) = true)
    {f_L_s5_schedules : Addr} {od_L_s5_schedules an_L_s5_schedules : Option Addr} {sl_L_s5_schedules : Array (Option Value)} {oc_L_s5_schedules kV_L_s5_schedules dc_L_s5_schedules pm_L_s5_schedules cd_L_s5_schedules ct_L_s5_schedules : Value}
    (a_L_s5_schedules : PySem.W.nsIn K mainGlobals "_law_s5_schedules" = some (some (.ref f_L_s5_schedules))) (l_L_s5_schedules : K.lookup f_L_s5_schedules = some ⟨oc_L_s5_schedules, od_L_s5_schedules, .func (PySem.W.fnOf "_law_s5_schedules" "_law_s5_schedules" (defArgs s_L_s5_schedules) (defBody s_L_s5_schedules) (defScope s_L_s5_schedules) .none kV_L_s5_schedules dc_L_s5_schedules pm_L_s5_schedules an_L_s5_schedules cd_L_s5_schedules ct_L_s5_schedules), sl_L_s5_schedules⟩) (c_L_s5_schedules : PySem.W.codeIn K cd_L_s5_schedules "_law_s5_schedules" = true) (k_L_s5_schedules : PySem.W.keepIn K (.ref f_L_s5_schedules) = true)
    {f_L_s5_schedule : Addr} {od_L_s5_schedule an_L_s5_schedule : Option Addr} {sl_L_s5_schedule : Array (Option Value)} {oc_L_s5_schedule kV_L_s5_schedule dc_L_s5_schedule pm_L_s5_schedule cd_L_s5_schedule ct_L_s5_schedule : Value}
    (a_L_s5_schedule : PySem.W.nsIn K mainGlobals "_law_s5_schedule" = some (some (.ref f_L_s5_schedule))) (l_L_s5_schedule : K.lookup f_L_s5_schedule = some ⟨oc_L_s5_schedule, od_L_s5_schedule, .func (PySem.W.fnOf "_law_s5_schedule" "_law_s5_schedule" (defArgs s_L_s5_schedule) (defBody s_L_s5_schedule) (defScope s_L_s5_schedule) .none kV_L_s5_schedule dc_L_s5_schedule pm_L_s5_schedule an_L_s5_schedule cd_L_s5_schedule ct_L_s5_schedule), sl_L_s5_schedule⟩) (c_L_s5_schedule : PySem.W.codeIn K cd_L_s5_schedule "_law_s5_schedule" = true) (k_L_s5_schedule : PySem.W.keepIn K (.ref f_L_s5_schedule) = true)
    {f_L_s5_met : Addr} {od_L_s5_met an_L_s5_met : Option Addr} {sl_L_s5_met : Array (Option Value)} {oc_L_s5_met kV_L_s5_met dc_L_s5_met pm_L_s5_met cd_L_s5_met ct_L_s5_met : Value}
    (a_L_s5_met : PySem.W.nsIn K mainGlobals "_law_s5_met" = some (some (.ref f_L_s5_met))) (l_L_s5_met : K.lookup f_L_s5_met = some ⟨oc_L_s5_met, od_L_s5_met, .func (PySem.W.fnOf "_law_s5_met" "_law_s5_met" (defArgs s_L_s5_met) (defBody s_L_s5_met) (defScope s_L_s5_met) .none kV_L_s5_met dc_L_s5_met pm_L_s5_met an_L_s5_met cd_L_s5_met ct_L_s5_met), sl_L_s5_met⟩) (c_L_s5_met : PySem.W.codeIn K cd_L_s5_met "_law_s5_met" = true) (k_L_s5_met : PySem.W.keepIn K (.ref f_L_s5_met) = true)
    {f_L_s5_state_of : Addr} {od_L_s5_state_of an_L_s5_state_of : Option Addr} {sl_L_s5_state_of : Array (Option Value)} {oc_L_s5_state_of kV_L_s5_state_of dc_L_s5_state_of pm_L_s5_state_of cd_L_s5_state_of ct_L_s5_state_of : Value}
    (a_L_s5_state_of : PySem.W.nsIn K mainGlobals "_law_s5_state_of" = some (some (.ref f_L_s5_state_of))) (l_L_s5_state_of : K.lookup f_L_s5_state_of = some ⟨oc_L_s5_state_of, od_L_s5_state_of, .func (PySem.W.fnOf "_law_s5_state_of" "_law_s5_state_of" (defArgs s_L_s5_state_of) (defBody s_L_s5_state_of) (defScope s_L_s5_state_of) .none kV_L_s5_state_of dc_L_s5_state_of pm_L_s5_state_of an_L_s5_state_of cd_L_s5_state_of ct_L_s5_state_of), sl_L_s5_state_of⟩) (c_L_s5_state_of : PySem.W.codeIn K cd_L_s5_state_of "_law_s5_state_of" = true) (k_L_s5_state_of : PySem.W.keepIn K (.ref f_L_s5_state_of) = true)
    {f_L_s5_bad : Addr} {od_L_s5_bad an_L_s5_bad : Option Addr} {sl_L_s5_bad : Array (Option Value)} {oc_L_s5_bad kV_L_s5_bad dc_L_s5_bad pm_L_s5_bad cd_L_s5_bad ct_L_s5_bad : Value}
    (a_L_s5_bad : PySem.W.nsIn K mainGlobals "_law_s5_bad" = some (some (.ref f_L_s5_bad))) (l_L_s5_bad : K.lookup f_L_s5_bad = some ⟨oc_L_s5_bad, od_L_s5_bad, .func (PySem.W.fnOf "_law_s5_bad" "_law_s5_bad" (defArgs s_L_s5_bad) (defBody s_L_s5_bad) (defScope s_L_s5_bad) .none kV_L_s5_bad dc_L_s5_bad pm_L_s5_bad an_L_s5_bad cd_L_s5_bad ct_L_s5_bad), sl_L_s5_bad⟩) (c_L_s5_bad : PySem.W.codeIn K cd_L_s5_bad "_law_s5_bad" = true) (k_L_s5_bad : PySem.W.keepIn K (.ref f_L_s5_bad) = true)
    {f_law : Addr} {od_law an_law : Option Addr} {sl_law : Array (Option Value)} {oc_law kV_law dc_law pm_law ct_law : Value} {cdA : Addr}
    (a_law : PySem.W.nsIn K mainGlobals "law" = some (some (.ref f_law))) (l_law : K.lookup f_law = some ⟨oc_law, od_law, .func (PySem.W.fnOf "law" "law" (defArgs s_law) (defBody s_law) (defScope s_law) .none kV_law dc_law pm_law an_law (.ref cdA) ct_law), sl_law⟩) (c_law : PySem.W.codeIn K (.ref cdA) "law" = true) (k_law : PySem.W.keepIn K (.ref f_law) = true)
    {ptA : Addr} (tbA : ∀ P ∈ [ptA], h.get? P = some (PySem.W.tabObj #[]))
    (hdA : PySem.W.codeHdIn K cdA ptA = true) (ntA : K.lookup ptA = none) (nyA : decide (cdA ≠ sysModules ∧ ptA ≠ sysModules) = true)
    (z_isinstance : PySem.W.nsIn K mainGlobals "isinstance" = some none)
    (z_int : PySem.W.nsIn K mainGlobals "int" = some none)
    (z_bool : PySem.W.nsIn K mainGlobals "bool" = some none)
    (z_tuple : PySem.W.nsIn K mainGlobals "tuple" = some none)
    (z_len : PySem.W.nsIn K mainGlobals "len" = some none)
    (z_max : PySem.W.nsIn K mainGlobals "max" = some none)
    (z_abs : PySem.W.nsIn K mainGlobals "abs" = some none)
    (z_range : PySem.W.nsIn K mainGlobals "range" = some none)
    (z_min : PySem.W.nsIn K mainGlobals "min" = some none)
    (z_ValueError : PySem.W.nsIn K mainGlobals "ValueError" = some none)
    (z_enumerate : PySem.W.nsIn K mainGlobals "enumerate" = some none)
    (z_list : PySem.W.nsIn K mainGlobals "list" = some none)
    (z_repr : PySem.W.nsIn K mainGlobals "repr" = some none)
    {t_MOST_FLUSHES : Tok} (y_MOST_FLUSHES : PySem.W.nsIn K mainGlobals "MOST_FLUSHES" = some (some (.int (60) t_MOST_FLUSHES)))
    {C_MergeBudgetError : Addr} (ac_MergeBudgetError : PySem.W.nsIn K mainGlobals "MergeBudgetError" = some (some (.ref C_MergeBudgetError))) (kc_MergeBudgetError : PySem.W.keepIn K (.ref C_MergeBudgetError) = true) {kd_MergeBudgetError : ClassData} (kl_MergeBudgetError : PySem.W.clsIn K C_MergeBudgetError = some kd_MergeBudgetError) (kt_MergeBudgetError : PySem.W.typeIn K (.ref C_MergeBudgetError) = some (.type "type"))
    (xp_MergeBudgetError : PySem.W.findIn K (.ref C_MergeBudgetError) "__getattribute__" = some (some (.builtin "BaseException.__getattribute__"))) (xq_MergeBudgetError : PySem.W.findIn K (.ref C_MergeBudgetError) "__getattr__" = some none) (xr_MergeBudgetError : PySem.W.subIn K (.ref C_MergeBudgetError) (.type "BaseException") = some true) (xs_MergeBudgetError : PySem.W.hasDictIn K C_MergeBudgetError = true) (xt_MergeBudgetError : PySem.W.findIn K (.ref C_MergeBudgetError) "__class__" = some (some (.builtin "object.__class__"))) (xu_MergeBudgetError : PySem.W.mroIn K C_MergeBudgetError (.type "object") = some true)
    (xi_MergeBudgetError : PySem.W.excIn K C_MergeBudgetError PySem.HandSPX.veTail "ValueError.__new__" = true)
    {C_InvalidSchedule : Addr} (ac_InvalidSchedule : PySem.W.nsIn K mainGlobals "InvalidSchedule" = some (some (.ref C_InvalidSchedule))) (kc_InvalidSchedule : PySem.W.keepIn K (.ref C_InvalidSchedule) = true) {kd_InvalidSchedule : ClassData} (kl_InvalidSchedule : PySem.W.clsIn K C_InvalidSchedule = some kd_InvalidSchedule) (kt_InvalidSchedule : PySem.W.typeIn K (.ref C_InvalidSchedule) = some (.type "type"))
    (xp_InvalidSchedule : PySem.W.findIn K (.ref C_InvalidSchedule) "__getattribute__" = some (some (.builtin "BaseException.__getattribute__"))) (xq_InvalidSchedule : PySem.W.findIn K (.ref C_InvalidSchedule) "__getattr__" = some none) (xr_InvalidSchedule : PySem.W.subIn K (.ref C_InvalidSchedule) (.type "BaseException") = some true) (xs_InvalidSchedule : PySem.W.hasDictIn K C_InvalidSchedule = true) (xt_InvalidSchedule : PySem.W.findIn K (.ref C_InvalidSchedule) "__class__" = some (some (.builtin "object.__class__"))) (xu_InvalidSchedule : PySem.W.mroIn K C_InvalidSchedule (.type "object") = some true)
    {nm_InvalidSchedule q_InvalidSchedule : Str} {N_InvalidSchedule : Addr} {bs_InvalidSchedule bm_InvalidSchedule : List Value} {sn_InvalidSchedule : _} {sub_InvalidSchedule : _} {ab_InvalidSchedule : _} {col_InvalidSchedule : _} {dd_InvalidSchedule : _} {k0_InvalidSchedule : _} {k1_InvalidSchedule : _} {k2_InvalidSchedule : _} {k3_InvalidSchedule : _} {k5_InvalidSchedule : _}
    (xL_InvalidSchedule : K.lookup C_InvalidSchedule = some (excClassObj nm_InvalidSchedule q_InvalidSchedule C_InvalidSchedule N_InvalidSchedule bs_InvalidSchedule bm_InvalidSchedule true sn_InvalidSchedule sub_InvalidSchedule ab_InvalidSchedule col_InvalidSchedule dd_InvalidSchedule k0_InvalidSchedule k1_InvalidSchedule k2_InvalidSchedule k3_InvalidSchedule k5_InvalidSchedule "ValueError.__new__")) (rv_InvalidSchedule : PySem.HandSPX.refsVE bm_InvalidSchedule = true)
    {I_InvalidSchedule : Addr} {iod_InvalidSchedule ian_InvalidSchedule : Option Addr} {isl_InvalidSchedule : Array (Option Value)} {ioc_InvalidSchedule ikV_InvalidSchedule idc_InvalidSchedule ipm_InvalidSchedule icd_InvalidSchedule ict_InvalidSchedule : Value}
    (ic_InvalidSchedule : PySem.W.findIn K (.ref C_InvalidSchedule) "__init__" = some (some (.ref I_InvalidSchedule))) (oa_InvalidSchedule : PySem.W.findIn K (.ref C_InvalidSchedule) "__setattr__" = some (some (.builtin "object.__setattr__"))) (oe_InvalidSchedule : PySem.W.findIn K (.ref C_InvalidSchedule) "value" = some none) (of_InvalidSchedule : PySem.W.typeIn K (.ref I_InvalidSchedule) = some (.type "function"))
    (il_InvalidSchedule : K.lookup I_InvalidSchedule = some ⟨ioc_InvalidSchedule, iod_InvalidSchedule, .func (PySem.W.fnOf "__init__" "InvalidSchedule.__init__" (defArgs s_init_InvalidSchedule) (defBody s_init_InvalidSchedule) (defScope s_init_InvalidSchedule) .none ikV_InvalidSchedule idc_InvalidSchedule ipm_InvalidSchedule ian_InvalidSchedule icd_InvalidSchedule ict_InvalidSchedule), isl_InvalidSchedule⟩) (ie_InvalidSchedule : PySem.W.codeIn K icd_InvalidSchedule "InvalidSchedule.__init__" = true) (ik_InvalidSchedule : PySem.W.keepIn K (.ref I_InvalidSchedule) = true)
    {C_InvalidCount : Addr} (ac_InvalidCount : PySem.W.nsIn K mainGlobals "InvalidCount" = some (some (.ref C_InvalidCount))) (kc_InvalidCount : PySem.W.keepIn K (.ref C_InvalidCount) = true) {kd_InvalidCount : ClassData} (kl_InvalidCount : PySem.W.clsIn K C_InvalidCount = some kd_InvalidCount) (kt_InvalidCount : PySem.W.typeIn K (.ref C_InvalidCount) = some (.type "type"))
    (xp_InvalidCount : PySem.W.findIn K (.ref C_InvalidCount) "__getattribute__" = some (some (.builtin "BaseException.__getattribute__"))) (xq_InvalidCount : PySem.W.findIn K (.ref C_InvalidCount) "__getattr__" = some none) (xr_InvalidCount : PySem.W.subIn K (.ref C_InvalidCount) (.type "BaseException") = some true) (xs_InvalidCount : PySem.W.hasDictIn K C_InvalidCount = true) (xt_InvalidCount : PySem.W.findIn K (.ref C_InvalidCount) "__class__" = some (some (.builtin "object.__class__"))) (xu_InvalidCount : PySem.W.mroIn K C_InvalidCount (.type "object") = some true)
    {nm_InvalidCount q_InvalidCount : Str} {N_InvalidCount : Addr} {bs_InvalidCount bm_InvalidCount : List Value} {sn_InvalidCount : _} {sub_InvalidCount : _} {ab_InvalidCount : _} {col_InvalidCount : _} {dd_InvalidCount : _} {k0_InvalidCount : _} {k1_InvalidCount : _} {k2_InvalidCount : _} {k3_InvalidCount : _} {k5_InvalidCount : _}
    (xL_InvalidCount : K.lookup C_InvalidCount = some (excClassObj nm_InvalidCount q_InvalidCount C_InvalidCount N_InvalidCount bs_InvalidCount bm_InvalidCount true sn_InvalidCount sub_InvalidCount ab_InvalidCount col_InvalidCount dd_InvalidCount k0_InvalidCount k1_InvalidCount k2_InvalidCount k3_InvalidCount k5_InvalidCount "ValueError.__new__")) (rv_InvalidCount : PySem.HandSPX.refsVE bm_InvalidCount = true)
    {I_InvalidCount : Addr} {iod_InvalidCount ian_InvalidCount : Option Addr} {isl_InvalidCount : Array (Option Value)} {ioc_InvalidCount ikV_InvalidCount idc_InvalidCount ipm_InvalidCount icd_InvalidCount ict_InvalidCount : Value}
    (ic_InvalidCount : PySem.W.findIn K (.ref C_InvalidCount) "__init__" = some (some (.ref I_InvalidCount))) (oa_InvalidCount : PySem.W.findIn K (.ref C_InvalidCount) "__setattr__" = some (some (.builtin "object.__setattr__"))) (oe_InvalidCount : PySem.W.findIn K (.ref C_InvalidCount) "value" = some none) (of_InvalidCount : PySem.W.typeIn K (.ref I_InvalidCount) = some (.type "function"))
    (il_InvalidCount : K.lookup I_InvalidCount = some ⟨ioc_InvalidCount, iod_InvalidCount, .func (PySem.W.fnOf "__init__" "InvalidCount.__init__" (defArgs s_init_InvalidCount) (defBody s_init_InvalidCount) (defScope s_init_InvalidCount) .none ikV_InvalidCount idc_InvalidCount ipm_InvalidCount ian_InvalidCount icd_InvalidCount ict_InvalidCount), isl_InvalidCount⟩) (ie_InvalidCount : PySem.W.codeIn K icd_InvalidCount "InvalidCount.__init__" = true) (ik_InvalidCount : PySem.W.keepIn K (.ref I_InvalidCount) = true)
    {C_InvalidBudget : Addr} (ac_InvalidBudget : PySem.W.nsIn K mainGlobals "InvalidBudget" = some (some (.ref C_InvalidBudget))) (kc_InvalidBudget : PySem.W.keepIn K (.ref C_InvalidBudget) = true) {kd_InvalidBudget : ClassData} (kl_InvalidBudget : PySem.W.clsIn K C_InvalidBudget = some kd_InvalidBudget) (kt_InvalidBudget : PySem.W.typeIn K (.ref C_InvalidBudget) = some (.type "type"))
    (xp_InvalidBudget : PySem.W.findIn K (.ref C_InvalidBudget) "__getattribute__" = some (some (.builtin "BaseException.__getattribute__"))) (xq_InvalidBudget : PySem.W.findIn K (.ref C_InvalidBudget) "__getattr__" = some none) (xr_InvalidBudget : PySem.W.subIn K (.ref C_InvalidBudget) (.type "BaseException") = some true) (xs_InvalidBudget : PySem.W.hasDictIn K C_InvalidBudget = true) (xt_InvalidBudget : PySem.W.findIn K (.ref C_InvalidBudget) "__class__" = some (some (.builtin "object.__class__"))) (xu_InvalidBudget : PySem.W.mroIn K C_InvalidBudget (.type "object") = some true)
    {nm_InvalidBudget q_InvalidBudget : Str} {N_InvalidBudget : Addr} {bs_InvalidBudget bm_InvalidBudget : List Value} {sn_InvalidBudget : _} {sub_InvalidBudget : _} {ab_InvalidBudget : _} {col_InvalidBudget : _} {dd_InvalidBudget : _} {k0_InvalidBudget : _} {k1_InvalidBudget : _} {k2_InvalidBudget : _} {k3_InvalidBudget : _} {k5_InvalidBudget : _}
    (xL_InvalidBudget : K.lookup C_InvalidBudget = some (excClassObj nm_InvalidBudget q_InvalidBudget C_InvalidBudget N_InvalidBudget bs_InvalidBudget bm_InvalidBudget true sn_InvalidBudget sub_InvalidBudget ab_InvalidBudget col_InvalidBudget dd_InvalidBudget k0_InvalidBudget k1_InvalidBudget k2_InvalidBudget k3_InvalidBudget k5_InvalidBudget "ValueError.__new__")) (rv_InvalidBudget : PySem.HandSPX.refsVE bm_InvalidBudget = true)
    {I_InvalidBudget : Addr} {iod_InvalidBudget ian_InvalidBudget : Option Addr} {isl_InvalidBudget : Array (Option Value)} {ioc_InvalidBudget ikV_InvalidBudget idc_InvalidBudget ipm_InvalidBudget icd_InvalidBudget ict_InvalidBudget : Value}
    (ic_InvalidBudget : PySem.W.findIn K (.ref C_InvalidBudget) "__init__" = some (some (.ref I_InvalidBudget))) (oa_InvalidBudget : PySem.W.findIn K (.ref C_InvalidBudget) "__setattr__" = some (some (.builtin "object.__setattr__"))) (oe_InvalidBudget : PySem.W.findIn K (.ref C_InvalidBudget) "value" = some none) (of_InvalidBudget : PySem.W.typeIn K (.ref I_InvalidBudget) = some (.type "function"))
    (il_InvalidBudget : K.lookup I_InvalidBudget = some ⟨ioc_InvalidBudget, iod_InvalidBudget, .func (PySem.W.fnOf "__init__" "InvalidBudget.__init__" (defArgs s_init_InvalidBudget) (defBody s_init_InvalidBudget) (defScope s_init_InvalidBudget) .none ikV_InvalidBudget idc_InvalidBudget ipm_InvalidBudget ian_InvalidBudget icd_InvalidBudget ict_InvalidBudget), isl_InvalidBudget⟩) (ie_InvalidBudget : PySem.W.codeIn K icd_InvalidBudget "InvalidBudget.__init__" = true) (ik_InvalidBudget : PySem.W.keepIn K (.ref I_InvalidBudget) = true)
    {C_InvalidState : Addr} (ac_InvalidState : PySem.W.nsIn K mainGlobals "InvalidState" = some (some (.ref C_InvalidState))) (kc_InvalidState : PySem.W.keepIn K (.ref C_InvalidState) = true) {kd_InvalidState : ClassData} (kl_InvalidState : PySem.W.clsIn K C_InvalidState = some kd_InvalidState) (kt_InvalidState : PySem.W.typeIn K (.ref C_InvalidState) = some (.type "type"))
    (xp_InvalidState : PySem.W.findIn K (.ref C_InvalidState) "__getattribute__" = some (some (.builtin "BaseException.__getattribute__"))) (xq_InvalidState : PySem.W.findIn K (.ref C_InvalidState) "__getattr__" = some none) (xr_InvalidState : PySem.W.subIn K (.ref C_InvalidState) (.type "BaseException") = some true) (xs_InvalidState : PySem.W.hasDictIn K C_InvalidState = true) (xt_InvalidState : PySem.W.findIn K (.ref C_InvalidState) "__class__" = some (some (.builtin "object.__class__"))) (xu_InvalidState : PySem.W.mroIn K C_InvalidState (.type "object") = some true)
    {nm_InvalidState q_InvalidState : Str} {N_InvalidState : Addr} {bs_InvalidState bm_InvalidState : List Value} {sn_InvalidState : _} {sub_InvalidState : _} {ab_InvalidState : _} {col_InvalidState : _} {dd_InvalidState : _} {k0_InvalidState : _} {k1_InvalidState : _} {k2_InvalidState : _} {k3_InvalidState : _} {k5_InvalidState : _}
    (xL_InvalidState : K.lookup C_InvalidState = some (excClassObj nm_InvalidState q_InvalidState C_InvalidState N_InvalidState bs_InvalidState bm_InvalidState true sn_InvalidState sub_InvalidState ab_InvalidState col_InvalidState dd_InvalidState k0_InvalidState k1_InvalidState k2_InvalidState k3_InvalidState k5_InvalidState "ValueError.__new__")) (rv_InvalidState : PySem.HandSPX.refsVE bm_InvalidState = true)
    {I_InvalidState : Addr} {iod_InvalidState ian_InvalidState : Option Addr} {isl_InvalidState : Array (Option Value)} {ioc_InvalidState ikV_InvalidState idc_InvalidState ipm_InvalidState icd_InvalidState ict_InvalidState : Value}
    (ic_InvalidState : PySem.W.findIn K (.ref C_InvalidState) "__init__" = some (some (.ref I_InvalidState))) (oa_InvalidState : PySem.W.findIn K (.ref C_InvalidState) "__setattr__" = some (some (.builtin "object.__setattr__"))) (oe_InvalidState : PySem.W.findIn K (.ref C_InvalidState) "value" = some none) (of_InvalidState : PySem.W.typeIn K (.ref I_InvalidState) = some (.type "function"))
    (il_InvalidState : K.lookup I_InvalidState = some ⟨ioc_InvalidState, iod_InvalidState, .func (PySem.W.fnOf "__init__" "InvalidState.__init__" (defArgs s_init_InvalidState) (defBody s_init_InvalidState) (defScope s_init_InvalidState) .none ikV_InvalidState idc_InvalidState ipm_InvalidState ian_InvalidState icd_InvalidState ict_InvalidState), isl_InvalidState⟩) (ie_InvalidState : PySem.W.codeIn K icd_InvalidState "InvalidState.__init__" = true) (ik_InvalidState : PySem.W.keepIn K (.ref I_InvalidState) = true)
    {C_InvalidMerge : Addr} (ac_InvalidMerge : PySem.W.nsIn K mainGlobals "InvalidMerge" = some (some (.ref C_InvalidMerge))) (kc_InvalidMerge : PySem.W.keepIn K (.ref C_InvalidMerge) = true) {kd_InvalidMerge : ClassData} (kl_InvalidMerge : PySem.W.clsIn K C_InvalidMerge = some kd_InvalidMerge) (kt_InvalidMerge : PySem.W.typeIn K (.ref C_InvalidMerge) = some (.type "type"))
    (xp_InvalidMerge : PySem.W.findIn K (.ref C_InvalidMerge) "__getattribute__" = some (some (.builtin "BaseException.__getattribute__"))) (xq_InvalidMerge : PySem.W.findIn K (.ref C_InvalidMerge) "__getattr__" = some none) (xr_InvalidMerge : PySem.W.subIn K (.ref C_InvalidMerge) (.type "BaseException") = some true) (xs_InvalidMerge : PySem.W.hasDictIn K C_InvalidMerge = true) (xt_InvalidMerge : PySem.W.findIn K (.ref C_InvalidMerge) "__class__" = some (some (.builtin "object.__class__"))) (xu_InvalidMerge : PySem.W.mroIn K C_InvalidMerge (.type "object") = some true)
    {nm_InvalidMerge q_InvalidMerge : Str} {N_InvalidMerge : Addr} {bs_InvalidMerge bm_InvalidMerge : List Value} {sn_InvalidMerge : _} {sub_InvalidMerge : _} {ab_InvalidMerge : _} {col_InvalidMerge : _} {dd_InvalidMerge : _} {k0_InvalidMerge : _} {k1_InvalidMerge : _} {k2_InvalidMerge : _} {k3_InvalidMerge : _} {k5_InvalidMerge : _}
    (xL_InvalidMerge : K.lookup C_InvalidMerge = some (excClassObj nm_InvalidMerge q_InvalidMerge C_InvalidMerge N_InvalidMerge bs_InvalidMerge bm_InvalidMerge true sn_InvalidMerge sub_InvalidMerge ab_InvalidMerge col_InvalidMerge dd_InvalidMerge k0_InvalidMerge k1_InvalidMerge k2_InvalidMerge k3_InvalidMerge k5_InvalidMerge "ValueError.__new__")) (rv_InvalidMerge : PySem.HandSPX.refsVE bm_InvalidMerge = true)
    {I_InvalidMerge : Addr} {iod_InvalidMerge ian_InvalidMerge : Option Addr} {isl_InvalidMerge : Array (Option Value)} {ioc_InvalidMerge ikV_InvalidMerge idc_InvalidMerge ipm_InvalidMerge icd_InvalidMerge ict_InvalidMerge : Value}
    (ic_InvalidMerge : PySem.W.findIn K (.ref C_InvalidMerge) "__init__" = some (some (.ref I_InvalidMerge))) (oa_InvalidMerge : PySem.W.findIn K (.ref C_InvalidMerge) "__setattr__" = some (some (.builtin "object.__setattr__"))) (oe_InvalidMerge : PySem.W.findIn K (.ref C_InvalidMerge) "value" = some none) (of_InvalidMerge : PySem.W.typeIn K (.ref I_InvalidMerge) = some (.type "function"))
    (il_InvalidMerge : K.lookup I_InvalidMerge = some ⟨ioc_InvalidMerge, iod_InvalidMerge, .func (PySem.W.fnOf "__init__" "InvalidMerge.__init__" (defArgs s_init_InvalidMerge) (defBody s_init_InvalidMerge) (defScope s_init_InvalidMerge) .none ikV_InvalidMerge idc_InvalidMerge ipm_InvalidMerge ian_InvalidMerge icd_InvalidMerge ict_InvalidMerge), isl_InvalidMerge⟩) (ie_InvalidMerge : PySem.W.codeIn K icd_InvalidMerge "InvalidMerge.__init__" = true) (ik_InvalidMerge : PySem.W.keepIn K (.ref I_InvalidMerge) = true)
    (gsp : PySem.W.specialIn K (.builtin "object.__class__") "__get__" = some (some (.builtin "getset_descriptor.__get__"))) (gta : PySem.W.takesIn K (.builtin "object.__class__") = some true) (kits : kitT [(C_InvalidSchedule, kd_InvalidSchedule.mro), (C_InvalidCount, kd_InvalidCount.mro), (C_InvalidBudget, kd_InvalidBudget.mro), (C_InvalidState, kd_InvalidState.mro), (C_InvalidMerge, kd_InvalidMerge.mro)] C_MergeBudgetError = true) (kitn : decide ([C_InvalidSchedule, C_InvalidCount, C_InvalidBudget, C_InvalidState, C_InvalidMerge].Nodup) = true) (kitz : decide (C_MergeBudgetError ∈ [C_InvalidSchedule, C_InvalidCount, C_InvalidBudget, C_InvalidState, C_InvalidMerge]) = false)
    : ∃ (fd : FuncData) (cs : List (Addr × Addr)), (∀ p ∈ cs, h.get? p.2 = some { cls := .none, data := .fields #[] }) ∧ (∀ p ∈ cs, K.lookup p.2 = none) ∧ (∀ p ∈ cs, PySem.W.CodeHd h p.1 p.2) ∧ (∀ p ∈ cs, p.1 ≠ sysModules ∧ p.2 ≠ sysModules) ∧ (∀ (s : Shared) (v : Value), BindsTo s fd ⟨[v], []⟩ [("_law_script", v)]) ∧ (∀ base : Heap, K.In base → base.Ns mainGlobals mg → (∀ p ∈ cs, LamX.TabB base mg p.1 p.2) → FnG l.prog w K mg base CX0 8 fa fd ["_law_script"] (sp_law K cs)) ∧ ∀ (H : Hp) (a : Addr) (ns : List Int) (o : HO), ns.length ≤ 63 → SqL K H a (ns.map V.int) → H sysModules = some o → (∀ ps, o ≠ .tbl ps) → (∀ p ∈ cs, H p.2 = some (.tbl #[])) → sp_law K cs [.ref a] H (fun v _ => v = .bl true) fun _ _ _ => False := by
  have e := hfa.symm.trans (PySem.W.mg_of X G a_law)
  cases e
  have F_is_int := fun_mk (st := s_is_int) l_is_int c_is_int k_is_int
  have B_is_int := F_is_int.binds (ps := ["value"]) fun _ _ _ _ _ _ us hl => match us, hl with | [_], _ => rfl
  have F_is_count := fun_mk (st := s_is_count) l_is_count c_is_count k_is_count
  have B_is_count := F_is_count.binds (ps := ["value"]) fun _ _ _ _ _ _ us hl => match us, hl with | [_], _ => rfl
  have F_is_count_up_to := fun_mk (st := s_is_count_up_to) l_is_count_up_to c_is_count_up_to k_is_count_up_to
  have B_is_count_up_to := F_is_count_up_to.binds (ps := ["value", "most"]) fun _ _ _ _ _ _ us hl => match us, hl with | [_, _], _ => rfl
  have F_is_schedule := fun_mk (st := s_is_schedule) l_is_schedule c_is_schedule k_is_schedule
  have B_is_schedule := F_is_schedule.binds (ps := ["value"]) fun _ _ _ _ _ _ us hl => match us, hl with | [_], _ => rfl
  have F_state_of := fun_mk (st := s_state_of) l_state_of c_state_of k_state_of
  have B_state_of := F_state_of.binds (ps := ["schedule"]) fun _ _ _ _ _ _ us hl => match us, hl with | [_], _ => rfl
  have KB_state_of_schedule := kbP (ps := ["schedule"]) (ks := ["schedule"]) (idx := [0]) F_state_of rfl rfl (by decide) (by decide) fun _ _ _ _ _ _ ws hl => match ws, hl with | [_], _ => rfl
  have F_state_after := fun_mk (st := s_state_after) l_state_after c_state_after k_state_after
  have B_state_after := F_state_after.binds (ps := ["state", "merge"]) fun _ _ _ _ _ _ us hl => match us, hl with | [_, _], _ => rfl
  have F_L_s5_hand := fun_mk (st := s_L_s5_hand) l_L_s5_hand c_L_s5_hand k_L_s5_hand
  have B_L_s5_hand := F_L_s5_hand.binds (ps := ["_law_script", "_law_nth"]) fun _ _ _ _ _ _ us hl => match us, hl with | [_, _], _ => rfl
  have F_L_s5_take := fun_mk (st := s_L_s5_take) l_L_s5_take c_L_s5_take k_L_s5_take
  have B_L_s5_take := F_L_s5_take.binds (ps := ["_law_hand", "_law_size"]) fun _ _ _ _ _ _ us hl => match us, hl with | [_, _], _ => rfl
  have F_L_s5_of := fun_mk (st := s_L_s5_of) l_L_s5_of c_L_s5_of k_L_s5_of
  have B_L_s5_of := F_L_s5_of.binds (ps := ["_law_hand", "_law_options"]) fun _ _ _ _ _ _ us hl => match us, hl with | [_, _], _ => rfl
  have F_L_s5_schedules := fun_mk (st := s_L_s5_schedules) l_L_s5_schedules c_L_s5_schedules k_L_s5_schedules
  have B_L_s5_schedules := F_L_s5_schedules.binds (ps := ["_law_total"]) fun _ _ _ _ _ _ us hl => match us, hl with | [_], _ => rfl
  have F_L_s5_schedule := fun_mk (st := s_L_s5_schedule) l_L_s5_schedule c_L_s5_schedule k_L_s5_schedule
  have B_L_s5_schedule := F_L_s5_schedule.binds (ps := ["_law_hand", "_law_total"]) fun _ _ _ _ _ _ us hl => match us, hl with | [_, _], _ => rfl
  have F_L_s5_met := fun_mk (st := s_L_s5_met) l_L_s5_met c_L_s5_met k_L_s5_met
  have B_L_s5_met := F_L_s5_met.binds (ps := ["_law_call"]) fun _ _ _ _ _ _ us hl => match us, hl with | [_], _ => rfl
  have F_L_s5_state_of := fun_mk (st := s_L_s5_state_of) l_L_s5_state_of c_L_s5_state_of k_L_s5_state_of
  have B_L_s5_state_of := F_L_s5_state_of.binds (ps := ["_law_plan"]) fun _ _ _ _ _ _ us hl => match us, hl with | [_], _ => rfl
  have F_L_s5_bad := fun_mk (st := s_L_s5_bad) l_L_s5_bad c_L_s5_bad k_L_s5_bad
  have B_L_s5_bad := F_L_s5_bad.binds (ps := ["_law_hand", "_law_plan"]) fun _ _ _ _ _ _ us hl => match us, hl with | [_, _], _ => rfl
  have F_law := fun_mk (st := s_law) l_law c_law k_law
  have B_law := F_law.binds (ps := ["_law_script"]) fun _ _ _ _ _ _ us hl => match us, hl with | [_], _ => rfl
  have FI_InvalidSchedule := fun_mk (st := s_init_InvalidSchedule) il_InvalidSchedule ie_InvalidSchedule ik_InvalidSchedule
  have BI_InvalidSchedule := FI_InvalidSchedule.binds (ps := ["self", "value"]) fun _ _ _ _ _ _ us hl => match us, hl with | [_, _], _ => rfl
  have FI_InvalidCount := fun_mk (st := s_init_InvalidCount) il_InvalidCount ie_InvalidCount ik_InvalidCount
  have BI_InvalidCount := FI_InvalidCount.binds (ps := ["self", "value"]) fun _ _ _ _ _ _ us hl => match us, hl with | [_, _], _ => rfl
  have FI_InvalidBudget := fun_mk (st := s_init_InvalidBudget) il_InvalidBudget ie_InvalidBudget ik_InvalidBudget
  have BI_InvalidBudget := FI_InvalidBudget.binds (ps := ["self", "value"]) fun _ _ _ _ _ _ us hl => match us, hl with | [_, _], _ => rfl
  have FI_InvalidState := fun_mk (st := s_init_InvalidState) il_InvalidState ie_InvalidState ik_InvalidState
  have BI_InvalidState := FI_InvalidState.binds (ps := ["self", "value"]) fun _ _ _ _ _ _ us hl => match us, hl with | [_, _], _ => rfl
  have FI_InvalidMerge := fun_mk (st := s_init_InvalidMerge) il_InvalidMerge ie_InvalidMerge ik_InvalidMerge
  have BI_InvalidMerge := FI_InvalidMerge.binds (ps := ["self", "value"]) fun _ _ _ _ _ _ us hl => match us, hl with | [_, _], _ => rfl
  have KT := kitB_mk (K := K) (m := C_MergeBudgetError) [(C_InvalidSchedule, kd_InvalidSchedule), (C_InvalidCount, kd_InvalidCount), (C_InvalidBudget, kd_InvalidBudget), (C_InvalidState, kd_InvalidState), (C_InvalidMerge, kd_InvalidMerge)] (by simp only [List.forall_mem_cons, List.not_mem_nil, false_implies, implies_true, and_true]; exact ⟨⟨kl_InvalidSchedule, kt_InvalidSchedule⟩, ⟨kl_InvalidCount, kt_InvalidCount⟩, ⟨kl_InvalidBudget, kt_InvalidBudget⟩, ⟨kl_InvalidState, kt_InvalidState⟩, ⟨kl_InvalidMerge, kt_InvalidMerge⟩⟩) kl_MergeBudgetError kt_MergeBudgetError kits
  let TX : Tx K mg := ⟨_, _, F_is_int, PySem.W.mg_of X G a_is_int, B_is_int, _, _, F_is_count, PySem.W.mg_of X G a_is_count, B_is_count, _, _, F_is_count_up_to, PySem.W.mg_of X G a_is_count_up_to, B_is_count_up_to, _, _, F_is_schedule, PySem.W.mg_of X G a_is_schedule, B_is_schedule, _, _, F_state_of, PySem.W.mg_of X G a_state_of, B_state_of, KB_state_of_schedule, _, _, F_state_after, PySem.W.mg_of X G a_state_after, B_state_after, _, _, F_L_s5_hand, PySem.W.mg_of X G a_L_s5_hand, B_L_s5_hand, _, _, F_L_s5_take, PySem.W.mg_of X G a_L_s5_take, B_L_s5_take, _, _, F_L_s5_of, PySem.W.mg_of X G a_L_s5_of, B_L_s5_of, _, _, F_L_s5_schedules, PySem.W.mg_of X G a_L_s5_schedules, B_L_s5_schedules, _, _, F_L_s5_schedule, PySem.W.mg_of X G a_L_s5_schedule, B_L_s5_schedule, _, _, F_L_s5_met, PySem.W.mg_of X G a_L_s5_met, B_L_s5_met, _, _, F_L_s5_state_of, PySem.W.mg_of X G a_L_s5_state_of, B_L_s5_state_of, _, _, F_L_s5_bad, PySem.W.mg_of X G a_L_s5_bad, B_L_s5_bad, _, _, F_law, PySem.W.mg_of X G a_law, B_law, PySem.W.mg_none_of X G z_isinstance, PySem.W.mg_none_of X G z_int, PySem.W.mg_none_of X G z_bool, PySem.W.mg_none_of X G z_tuple, PySem.W.mg_none_of X G z_len, PySem.W.mg_none_of X G z_max, PySem.W.mg_none_of X G z_abs, PySem.W.mg_none_of X G z_range, PySem.W.mg_none_of X G z_min, PySem.W.mg_none_of X G z_ValueError, PySem.W.mg_none_of X G z_enumerate, PySem.W.mg_none_of X G z_list, PySem.W.mg_none_of X G z_repr, _, PySem.W.mg_of X G ac_MergeBudgetError, kc_MergeBudgetError, ⟨xp_MergeBudgetError, xq_MergeBudgetError, xr_MergeBudgetError, xs_MergeBudgetError, xt_MergeBudgetError, gsp, gta, xu_MergeBudgetError⟩, ⟨xp_MergeBudgetError, xq_MergeBudgetError, xr_MergeBudgetError, xs_MergeBudgetError⟩, xi_MergeBudgetError, _, PySem.W.mg_of X G ac_InvalidSchedule, kc_InvalidSchedule, ⟨xp_InvalidSchedule, xq_InvalidSchedule, xr_InvalidSchedule, xs_InvalidSchedule, xt_InvalidSchedule, gsp, gta, xu_InvalidSchedule⟩, ⟨xp_InvalidSchedule, xq_InvalidSchedule, xr_InvalidSchedule, xs_InvalidSchedule⟩, ⟨⟨_, _, _, _, _, _, _, _, _, _, _, _, _, _, _, xL_InvalidSchedule, rv_InvalidSchedule⟩, oa_InvalidSchedule, xr_InvalidSchedule, kt_InvalidSchedule, kc_InvalidSchedule⟩, oe_InvalidSchedule, _, _, ic_InvalidSchedule, of_InvalidSchedule, FI_InvalidSchedule, BI_InvalidSchedule, _, PySem.W.mg_of X G ac_InvalidCount, kc_InvalidCount, ⟨xp_InvalidCount, xq_InvalidCount, xr_InvalidCount, xs_InvalidCount, xt_InvalidCount, gsp, gta, xu_InvalidCount⟩, ⟨xp_InvalidCount, xq_InvalidCount, xr_InvalidCount, xs_InvalidCount⟩, ⟨⟨_, _, _, _, _, _, _, _, _, _, _, _, _, _, _, xL_InvalidCount, rv_InvalidCount⟩, oa_InvalidCount, xr_InvalidCount, kt_InvalidCount, kc_InvalidCount⟩, oe_InvalidCount, _, _, ic_InvalidCount, of_InvalidCount, FI_InvalidCount, BI_InvalidCount, _, PySem.W.mg_of X G ac_InvalidBudget, kc_InvalidBudget, ⟨xp_InvalidBudget, xq_InvalidBudget, xr_InvalidBudget, xs_InvalidBudget, xt_InvalidBudget, gsp, gta, xu_InvalidBudget⟩, ⟨xp_InvalidBudget, xq_InvalidBudget, xr_InvalidBudget, xs_InvalidBudget⟩, ⟨⟨_, _, _, _, _, _, _, _, _, _, _, _, _, _, _, xL_InvalidBudget, rv_InvalidBudget⟩, oa_InvalidBudget, xr_InvalidBudget, kt_InvalidBudget, kc_InvalidBudget⟩, oe_InvalidBudget, _, _, ic_InvalidBudget, of_InvalidBudget, FI_InvalidBudget, BI_InvalidBudget, _, PySem.W.mg_of X G ac_InvalidState, kc_InvalidState, ⟨xp_InvalidState, xq_InvalidState, xr_InvalidState, xs_InvalidState, xt_InvalidState, gsp, gta, xu_InvalidState⟩, ⟨xp_InvalidState, xq_InvalidState, xr_InvalidState, xs_InvalidState⟩, ⟨⟨_, _, _, _, _, _, _, _, _, _, _, _, _, _, _, xL_InvalidState, rv_InvalidState⟩, oa_InvalidState, xr_InvalidState, kt_InvalidState, kc_InvalidState⟩, oe_InvalidState, _, _, ic_InvalidState, of_InvalidState, FI_InvalidState, BI_InvalidState, _, PySem.W.mg_of X G ac_InvalidMerge, kc_InvalidMerge, ⟨xp_InvalidMerge, xq_InvalidMerge, xr_InvalidMerge, xs_InvalidMerge, xt_InvalidMerge, gsp, gta, xu_InvalidMerge⟩, ⟨xp_InvalidMerge, xq_InvalidMerge, xr_InvalidMerge, xs_InvalidMerge⟩, ⟨⟨_, _, _, _, _, _, _, _, _, _, _, _, _, _, _, xL_InvalidMerge, rv_InvalidMerge⟩, oa_InvalidMerge, xr_InvalidMerge, kt_InvalidMerge, kc_InvalidMerge⟩, oe_InvalidMerge, _, _, ic_InvalidMerge, of_InvalidMerge, FI_InvalidMerge, BI_InvalidMerge, KT, of_decide_eq_true kitn, of_decide_eq_false kitz, cdA, ptA, ⟨_, _, _, _, _, _, _, _, rfl, l_law, c_law⟩, _, PySem.W.mg_of X G y_MOST_FLUSHES⟩
  exact ⟨TX.fd_law, [(cdA, ptA)], (fun p hp => by rcases List.mem_cons.mp hp with e | hp; (rw [e]; exact tbA _ (by simp)); cases hp), (fun p hp => by rcases List.mem_cons.mp hp with e | hp; (rw [e]; exact ntA); cases hp), (fun p hp => by rcases List.mem_cons.mp hp with e | hp; (rw [e]; exact PySem.W.codeHd_of_K X hdA); cases hp), (fun p hp => by rcases List.mem_cons.mp hp with e | hp; (rw [e]; exact of_decide_eq_true nyA); cases hp), fun s v => .of_eq rfl, fun base _ _ tb => ok_law TX (tb (cdA, ptA) (by simp)), fun H a ns o h1 h2 h3 h3b h4 => ⟨a, ns, o, rfl, h2, h1, h3, h3b, h4, fun _ => rfl⟩⟩
end MB
open PySem PySem.W PyProof.Rows
set_option maxHeartbeats 0 in
theorem PySem.Challenge.cw_mergebudget_k18_states_after_schedules_holds : PySem.Challenge.rw_mergebudget_k18_states_after_schedules.Holds := by
  w_on; o_law; k_head; (case hw => w_witness2)
  k_fill
  refine MB.walk_ofT (l := PySem.Challenge.rw_mergebudget_k18_states_after_schedules) (n := 63) (k := 8) (x := "_law_script") (sp := MB.sp_law) rfl (by decide) rfl ⟨rfl, by decide, by decide⟩ (by decide +kernel) ?KS (fun w h Y => PySem.W.km_in_of Y) ?F
  case F =>
    intro w mg fa h Y KX G hmg
    refine' MB.all_mk KX G hmg ?a_is_int ?l_is_int ?c_is_int ?k_is_int ?a_is_count ?l_is_count ?c_is_count ?k_is_count ?a_is_count_up_to ?l_is_count_up_to ?c_is_count_up_to ?k_is_count_up_to ?a_is_schedule ?l_is_schedule ?c_is_schedule ?k_is_schedule ?a_state_of ?l_state_of ?c_state_of ?k_state_of ?a_state_after ?l_state_after ?c_state_after ?k_state_after ?a_L_s5_hand ?l_L_s5_hand ?c_L_s5_hand ?k_L_s5_hand ?a_L_s5_take ?l_L_s5_take ?c_L_s5_take ?k_L_s5_take ?a_L_s5_of ?l_L_s5_of ?c_L_s5_of ?k_L_s5_of ?a_L_s5_schedules ?l_L_s5_schedules ?c_L_s5_schedules ?k_L_s5_schedules ?a_L_s5_schedule ?l_L_s5_schedule ?c_L_s5_schedule ?k_L_s5_schedule ?a_L_s5_met ?l_L_s5_met ?c_L_s5_met ?k_L_s5_met ?a_L_s5_state_of ?l_L_s5_state_of ?c_L_s5_state_of ?k_L_s5_state_of ?a_L_s5_bad ?l_L_s5_bad ?c_L_s5_bad ?k_L_s5_bad ?a_law ?l_law ?c_law ?k_law ?tbA ?hdA ?ntA ?nyA ?z_isinstance ?z_int ?z_bool ?z_tuple ?z_len ?z_max ?z_abs ?z_range ?z_min ?z_ValueError ?z_enumerate ?z_list ?z_repr ?y_MOST_FLUSHES ?ac_MergeBudgetError ?kc_MergeBudgetError ?kl_MergeBudgetError ?kt_MergeBudgetError ?xp_MergeBudgetError ?xq_MergeBudgetError ?xr_MergeBudgetError ?xs_MergeBudgetError ?xt_MergeBudgetError ?xu_MergeBudgetError ?xi_MergeBudgetError ?ac_InvalidSchedule ?kc_InvalidSchedule ?kl_InvalidSchedule ?kt_InvalidSchedule ?xp_InvalidSchedule ?xq_InvalidSchedule ?xr_InvalidSchedule ?xs_InvalidSchedule ?xt_InvalidSchedule ?xu_InvalidSchedule ?xL_InvalidSchedule ?rv_InvalidSchedule ?ic_InvalidSchedule ?oa_InvalidSchedule ?oe_InvalidSchedule ?of_InvalidSchedule ?il_InvalidSchedule ?ie_InvalidSchedule ?ik_InvalidSchedule ?ac_InvalidCount ?kc_InvalidCount ?kl_InvalidCount ?kt_InvalidCount ?xp_InvalidCount ?xq_InvalidCount ?xr_InvalidCount ?xs_InvalidCount ?xt_InvalidCount ?xu_InvalidCount ?xL_InvalidCount ?rv_InvalidCount ?ic_InvalidCount ?oa_InvalidCount ?oe_InvalidCount ?of_InvalidCount ?il_InvalidCount ?ie_InvalidCount ?ik_InvalidCount ?ac_InvalidBudget ?kc_InvalidBudget ?kl_InvalidBudget ?kt_InvalidBudget ?xp_InvalidBudget ?xq_InvalidBudget ?xr_InvalidBudget ?xs_InvalidBudget ?xt_InvalidBudget ?xu_InvalidBudget ?xL_InvalidBudget ?rv_InvalidBudget ?ic_InvalidBudget ?oa_InvalidBudget ?oe_InvalidBudget ?of_InvalidBudget ?il_InvalidBudget ?ie_InvalidBudget ?ik_InvalidBudget ?ac_InvalidState ?kc_InvalidState ?kl_InvalidState ?kt_InvalidState ?xp_InvalidState ?xq_InvalidState ?xr_InvalidState ?xs_InvalidState ?xt_InvalidState ?xu_InvalidState ?xL_InvalidState ?rv_InvalidState ?ic_InvalidState ?oa_InvalidState ?oe_InvalidState ?of_InvalidState ?il_InvalidState ?ie_InvalidState ?ik_InvalidState ?ac_InvalidMerge ?kc_InvalidMerge ?kl_InvalidMerge ?kt_InvalidMerge ?xp_InvalidMerge ?xq_InvalidMerge ?xr_InvalidMerge ?xs_InvalidMerge ?xt_InvalidMerge ?xu_InvalidMerge ?xL_InvalidMerge ?rv_InvalidMerge ?ic_InvalidMerge ?oa_InvalidMerge ?oe_InvalidMerge ?of_InvalidMerge ?il_InvalidMerge ?ie_InvalidMerge ?ik_InvalidMerge ?gsp ?gta ?kits ?kitn ?kitz
    (case a_is_int => k_is); (case l_is_int => k_is); (case c_is_int => k_is); (case k_is_int => k_is); (case a_is_count => k_is); (case l_is_count => k_is); (case c_is_count => k_is); (case k_is_count => k_is); (case a_is_count_up_to => k_is); (case l_is_count_up_to => k_is); (case c_is_count_up_to => k_is); (case k_is_count_up_to => k_is); (case a_is_schedule => k_is); (case l_is_schedule => k_is); (case c_is_schedule => k_is); (case k_is_schedule => k_is); (case a_state_of => k_is); (case l_state_of => k_is); (case c_state_of => k_is); (case k_state_of => k_is); (case a_state_after => k_is); (case l_state_after => k_is); (case c_state_after => k_is); (case k_state_after => k_is); (case a_L_s5_hand => k_is); (case l_L_s5_hand => k_is); (case c_L_s5_hand => k_is); (case k_L_s5_hand => k_is); (case a_L_s5_take => k_is); (case l_L_s5_take => k_is); (case c_L_s5_take => k_is); (case k_L_s5_take => k_is); (case a_L_s5_of => k_is); (case l_L_s5_of => k_is); (case c_L_s5_of => k_is); (case k_L_s5_of => k_is); (case a_L_s5_schedules => k_is); (case l_L_s5_schedules => k_is); (case c_L_s5_schedules => k_is); (case k_L_s5_schedules => k_is); (case a_L_s5_schedule => k_is); (case l_L_s5_schedule => k_is); (case c_L_s5_schedule => k_is); (case k_L_s5_schedule => k_is); (case a_L_s5_met => k_is); (case l_L_s5_met => k_is); (case c_L_s5_met => k_is); (case k_L_s5_met => k_is); (case a_L_s5_state_of => k_is); (case l_L_s5_state_of => k_is); (case c_L_s5_state_of => k_is); (case k_L_s5_state_of => k_is); (case a_L_s5_bad => k_is); (case l_L_s5_bad => k_is); (case c_L_s5_bad => k_is); (case k_L_s5_bad => k_is); (case a_law => k_is); (case l_law => k_is); (case c_law => k_is); (case k_law => k_is); (case tbA => exact PySem.W.km_tabs_of Y); (case hdA => first | k_is | rfl | decide +kernel); (case ntA => first | k_is | rfl | decide +kernel); (case nyA => first | k_is | rfl | decide +kernel); (case z_isinstance => k_is); (case z_int => k_is); (case z_bool => k_is); (case z_tuple => k_is); (case z_len => k_is); (case z_max => k_is); (case z_abs => k_is); (case z_range => k_is); (case z_min => k_is); (case z_ValueError => k_is); (case z_enumerate => k_is); (case z_list => k_is); (case z_repr => k_is); (case y_MOST_FLUSHES => k_is); (case ac_MergeBudgetError => k_is); (case kc_MergeBudgetError => k_is); (case kl_MergeBudgetError => k_is); (case kt_MergeBudgetError => k_is); (case xp_MergeBudgetError => k_is); (case xq_MergeBudgetError => k_is); (case xr_MergeBudgetError => k_is); (case xs_MergeBudgetError => k_is); (case xt_MergeBudgetError => k_is); (case xu_MergeBudgetError => k_is); (case xi_MergeBudgetError => first | k_exc | k_is); (case ac_InvalidSchedule => k_is); (case kc_InvalidSchedule => k_is); (case kl_InvalidSchedule => k_is); (case kt_InvalidSchedule => k_is); (case xp_InvalidSchedule => k_is); (case xq_InvalidSchedule => k_is); (case xr_InvalidSchedule => k_is); (case xs_InvalidSchedule => k_is); (case xt_InvalidSchedule => k_is); (case xu_InvalidSchedule => k_is); (case xL_InvalidSchedule => k_is); (case rv_InvalidSchedule => decide +kernel); (case ic_InvalidSchedule => k_is); (case oa_InvalidSchedule => k_is); (case oe_InvalidSchedule => k_is); (case of_InvalidSchedule => k_is); (case il_InvalidSchedule => k_is); (case ie_InvalidSchedule => k_is); (case ik_InvalidSchedule => k_is); (case ac_InvalidCount => k_is); (case kc_InvalidCount => k_is); (case kl_InvalidCount => k_is); (case kt_InvalidCount => k_is); (case xp_InvalidCount => k_is); (case xq_InvalidCount => k_is); (case xr_InvalidCount => k_is); (case xs_InvalidCount => k_is); (case xt_InvalidCount => k_is); (case xu_InvalidCount => k_is); (case xL_InvalidCount => k_is); (case rv_InvalidCount => decide +kernel); (case ic_InvalidCount => k_is); (case oa_InvalidCount => k_is); (case oe_InvalidCount => k_is); (case of_InvalidCount => k_is); (case il_InvalidCount => k_is); (case ie_InvalidCount => k_is); (case ik_InvalidCount => k_is); (case ac_InvalidBudget => k_is); (case kc_InvalidBudget => k_is); (case kl_InvalidBudget => k_is); (case kt_InvalidBudget => k_is); (case xp_InvalidBudget => k_is); (case xq_InvalidBudget => k_is); (case xr_InvalidBudget => k_is); (case xs_InvalidBudget => k_is); (case xt_InvalidBudget => k_is); (case xu_InvalidBudget => k_is); (case xL_InvalidBudget => k_is); (case rv_InvalidBudget => decide +kernel); (case ic_InvalidBudget => k_is); (case oa_InvalidBudget => k_is); (case oe_InvalidBudget => k_is); (case of_InvalidBudget => k_is); (case il_InvalidBudget => k_is); (case ie_InvalidBudget => k_is); (case ik_InvalidBudget => k_is); (case ac_InvalidState => k_is); (case kc_InvalidState => k_is); (case kl_InvalidState => k_is); (case kt_InvalidState => k_is); (case xp_InvalidState => k_is); (case xq_InvalidState => k_is); (case xr_InvalidState => k_is); (case xs_InvalidState => k_is); (case xt_InvalidState => k_is); (case xu_InvalidState => k_is); (case xL_InvalidState => k_is); (case rv_InvalidState => decide +kernel); (case ic_InvalidState => k_is); (case oa_InvalidState => k_is); (case oe_InvalidState => k_is); (case of_InvalidState => k_is); (case il_InvalidState => k_is); (case ie_InvalidState => k_is); (case ik_InvalidState => k_is); (case ac_InvalidMerge => k_is); (case kc_InvalidMerge => k_is); (case kl_InvalidMerge => k_is); (case kt_InvalidMerge => k_is); (case xp_InvalidMerge => k_is); (case xq_InvalidMerge => k_is); (case xr_InvalidMerge => k_is); (case xs_InvalidMerge => k_is); (case xt_InvalidMerge => k_is); (case xu_InvalidMerge => k_is); (case xL_InvalidMerge => k_is); (case rv_InvalidMerge => decide +kernel); (case ic_InvalidMerge => k_is); (case oa_InvalidMerge => k_is); (case oe_InvalidMerge => k_is); (case of_InvalidMerge => k_is); (case il_InvalidMerge => k_is); (case ie_InvalidMerge => k_is); (case ik_InvalidMerge => k_is); (case gsp => k_is); (case gta => k_is); (case kits => decide +kernel); (case kitn => decide +kernel); (case kitz => decide +kernel)
  case KS => exact fun p => by first | rfl | decide +kernel | k_is
