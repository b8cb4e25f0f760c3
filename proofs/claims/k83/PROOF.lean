import PyProof.Rows.All
import Wide.All
import OpenK.AllK
import Wide.FinOn
import HandS.ForMost
import HandS.IsInst
import HandS.Wide
import HandS.TupAny
import HandS.TupMul
import HandS.Rev
import HandS.Style
import HandS.Strs
import HandS.Walk
import KE.GoesEnum
import PyProof.ReprRoads
import PyProof.ReprBulk
import HandS.WideMore
import HandS.Conv
import HandS.SortKw
import HandS.SortInts
import KE.DataMinMax
import KE.DatumOrd
import HandS.RevRange
import HandS.Zip
import KE.GoesZip
import KE.GoesMore
import HandS.List
import PySem.Challenge.RW_mergebudget_k83_whole_mirror_keeps_work
set_option Elab.async false
set_option linter.all false
set_option maxRecDepth 100000
namespace MB
inductive T where
  | nil
  | node (l r : T)
  deriving DecidableEq

namespace T
def size : T → Nat
  | nil => 0
  | node l r => l.size + 1 + r.size
def runs : T → Nat
  | nil => 0
  | node _ r => 1 + r.runs
def sch : T → List Nat
  | nil => []
  | node l r => l.sch ++ l.runs :: r.sch
def rc : T → List Nat
  | nil => []
  | node l r => l.rc ++ 1 :: r.rc.map (· + 1)
def wr : T → List Nat
  | nil => []
  | node l r => l.wr.map (· + 1) ++ 1 :: r.wr
/-- parents: off, the number of the first node; p, the parent of the root -/
def par (off p : Int) : T → List Int
  | nil => []
  | node l r => par off (off + l.size) l ++ p :: par (off + l.size + 1) (off + l.size) r
def mir : T → T
  | nil => nil
  | node l r => node r.mir l.mir
def push (t : T) (m : Nat) : T :=
  if m = t.runs then node t nil else match t with
    | nil => nil
    | node l r => node l (push r m)
/-- the first flush of the run that a flush that merges m writes -/
def start (t : T) (m : Nat) : Nat :=
  if m = t.runs then 0 else match t with
    | nil => 0
    | node l r => l.size + 1 + start r m
/-- the stack: intervals of the right spine -/
def stk (off : Nat) : T → List (Nat × Nat)
  | nil => []
  | node l r => (off, off + l.size + 1) :: stk (off + l.size + 1) r
def graft : T → T → T
  | nil, t => t
  | node l r, t => node l (graft r t)

theorem sch_len : ∀ t : T, t.sch.length = t.size
  | nil => rfl
  | node l r => by simp [sch, size, sch_len l, sch_len r]; omega
theorem rc_len : ∀ t : T, t.rc.length = t.size
  | nil => rfl
  | node l r => by simp [rc, size, rc_len l, rc_len r]; omega
theorem wr_len : ∀ t : T, t.wr.length = t.size
  | nil => rfl
  | node l r => by simp [wr, size, wr_len l, wr_len r]; omega
theorem par_len : ∀ (t : T) (off p : Int), (t.par off p).length = t.size
  | nil, _, _ => rfl
  | node l r, off, p => by simp [par, size, par_len l, par_len r]; omega
theorem runs_le : ∀ t : T, t.runs ≤ t.size
  | nil => Nat.le_refl _
  | node l r => by have := runs_le r; simp [runs, size]; omega
theorem sum_sch : ∀ t : T, t.sch.sum + t.runs = t.size
  | nil => rfl
  | node l r => by
    have h1 := sum_sch l; have h2 := sum_sch r
    simp [sch, runs, size, List.sum_append]; omega
theorem stk_len : ∀ (t : T) (off : Nat), (t.stk off).length = t.runs
  | nil, _ => rfl
  | node l r, off => by simp [stk, runs, stk_len r]; omega

/-! ### push -/
theorem push_eq {t : T} : t.push t.runs = node t nil := by
  unfold push; rw [if_pos rfl]
theorem push_node {l r : T} {m : Nat} (h : m ≤ r.runs) : (node l r).push m = node l (r.push m) := by
  conv => lhs; unfold push
  rw [if_neg (by simp [runs]; omega)]
theorem start_eq {t : T} : t.start t.runs = 0 := by
  unfold start; rw [if_pos rfl]
theorem start_node {l r : T} {m : Nat} (h : m ≤ r.runs) : (node l r).start m = l.size + 1 + r.start m := by
  conv => lhs; unfold start
  rw [if_neg (by simp [runs]; omega)]
/-- the two ways of a push -/
theorem push_ind {C : T → Nat → Prop} (h1 : ∀ t, C t t.runs) (h2 : ∀ l r m, m ≤ r.runs → C r m → C (node l r) m) : ∀ (t : T) (m : Nat), m ≤ t.runs → C t m
  | nil, m, h => by
    have : m = nil.runs := by simp [runs] at h ⊢; omega
    rw [this]; exact h1 nil
  | node l r, m, h => by
    by_cases e : m = (node l r).runs
    · rw [e]; exact h1 _
    · have hm : m ≤ r.runs := by simp [runs] at h e; omega
      exact h2 l r m hm (push_ind h1 h2 r m hm)
theorem push_sch : ∀ (t : T) (m : Nat), m ≤ t.runs → (t.push m).sch = t.sch ++ [m] :=
  push_ind (fun t => by rw [push_eq]; simp [sch]) fun l r m h ih => by rw [push_node h]; simp [sch, ih]
theorem push_size : ∀ (t : T) (m : Nat), m ≤ t.runs → (t.push m).size = t.size + 1 :=
  push_ind (fun t => by rw [push_eq]; simp [size]) fun l r m h ih => by rw [push_node h]; simp [size, ih]; omega
theorem push_runs : ∀ (t : T) (m : Nat), m ≤ t.runs → (t.push m).runs = t.runs - m + 1 :=
  push_ind (fun t => by rw [push_eq]; simp [runs]) fun l r m h ih => by rw [push_node h]; simp [runs, ih]; omega
theorem push_rc : ∀ (t : T) (m : Nat), m ≤ t.runs → (t.push m).rc = t.rc ++ [t.runs - m + 1] :=
  push_ind (fun t => by rw [push_eq]; simp [rc]) fun l r m h ih => by
    rw [push_node h]; simp [rc, ih, runs]; omega
theorem start_le : ∀ (t : T) (m : Nat), m ≤ t.runs → t.start m ≤ t.size :=
  push_ind (fun t => by rw [start_eq]; omega) fun l r m h ih => by rw [start_node h]; simp [size]; omega
theorem push_wr : ∀ (t : T) (m : Nat), m ≤ t.runs → (t.push m).wr = t.wr.take (t.start m) ++ ((t.wr.drop (t.start m)).map (· + 1) ++ [1]) :=
  push_ind (fun t => by rw [push_eq, start_eq]; simp [wr]) fun l r m h ih => by
    rw [push_node h, start_node h]
    have e : (wr (node l r)) = (l.wr.map (· + 1) ++ [1]) ++ r.wr := by simp [wr]
    have el : (l.wr.map (· + 1) ++ [1]).length = l.size + 1 := by simp [wr_len]
    rw [e, List.take_append, List.drop_append, el]
    rw [List.take_of_length_le (by rw [el]; omega), List.drop_eq_nil_of_le (by rw [el]; omega)]
    rw [show l.size + 1 + r.start m - (l.size + 1) = r.start m by omega]
    simp [wr, ih]
theorem stk_push : ∀ (t : T) (m : Nat), m ≤ t.runs → ∀ off, (t.push m).stk off = (t.stk off).take (t.runs - m) ++ [(off + t.start m, off + t.size + 1)] :=
  push_ind (fun t off => by rw [push_eq, start_eq]; simp [stk]) fun l r m h ih off => by
    rw [push_node h, start_node h]
    have hh : (node l r).runs - m = (r.runs - m) + 1 := by simp [runs]; omega
    rw [hh]
    simp [stk, ih, size]
    omega
theorem stk_at : ∀ (t : T) (m : Nat), m ≤ t.runs → ∀ off, 0 < m → ∃ e, (t.stk off)[t.runs - m]? = some (off + t.start m, e) :=
  push_ind (fun t off h => by
      rw [start_eq, Nat.sub_self]
      cases t with
      | nil => simp [runs] at h
      | node l r => exact ⟨_, rfl⟩) fun l r m h ih off h0 => by
    rw [start_node h]
    have hh : (node l r).runs - m = (r.runs - m) + 1 := by simp [runs]; omega
    rw [hh]
    obtain ⟨e, he⟩ := ih (off + l.size + 1) h0
    refine ⟨e, ?_⟩
    simp only [stk, List.getElem?_cons_succ, he]
    congr 2; omega
theorem start_zero : ∀ (t : T) (m : Nat), m ≤ t.runs → m = 0 → t.start m = t.size :=
  push_ind (fun t h => by
      rw [start_eq]
      cases t with
      | nil => rfl
      | node l r => simp [runs] at h) fun l r m h ih h0 => by
    rw [start_node h, ih h0]; simp [size]

/-! ### schedules and trees -/
theorem graft_nil : ∀ t : T, t.graft nil = t
  | nil => rfl
  | node l r => by simp [graft, graft_nil r]
theorem graft_assoc : ∀ a b c : T, (a.graft b).graft c = a.graft (b.graft c)
  | nil, _, _ => rfl
  | node l r, b, c => by simp [graft, graft_assoc r b c]
theorem graft_runs : ∀ a b : T, (a.graft b).runs = a.runs + b.runs
  | nil, b => by simp [graft, runs]
  | node l r, b => by simp [graft, runs, graft_runs r b]; omega
theorem graft_push : ∀ (u l : T), (u.graft l).push l.runs = u.graft (node l nil)
  | nil, l => by simp [graft, push_eq]
  | node a b, l => by
    simp only [graft]
    rw [push_node (by rw [graft_runs]; omega), graft_push b l]
theorem foldl_sch : ∀ (t u : T), t.sch.foldl push u = u.graft t
  | nil, u => by simp [sch, graft_nil]
  | node l r, u => by
    simp only [sch, List.foldl_append, List.foldl_cons]
    rw [foldl_sch l u, graft_push, foldl_sch r, graft_assoc]
    rfl
theorem sch_inj {a b : T} (h : a.sch = b.sch) : a = b := by
  have e1 := foldl_sch a nil
  have e2 := foldl_sch b nil
  rw [h, e2] at e1
  exact e1.symm
end T

/-- a schedule that begins with `runs` runs -/
def Ok : Nat → List Nat → Prop
  | _, [] => True
  | k, m :: r => m ≤ k ∧ Ok (k - m + 1) r
theorem ok_tree : ∀ (p : List Nat) (u : T), Ok u.runs p → ∃ t : T, t.sch = u.sch ++ p ∧ p.foldl T.push u = t
  | [], u, _ => ⟨u, by simp, rfl⟩
  | m :: r, u, h => by
    obtain ⟨h1, h2⟩ := h
    rw [← T.push_runs u m h1] at h2
    obtain ⟨t, e1, e2⟩ := ok_tree r (u.push m) h2
    exact ⟨t, by rw [e1, T.push_sch u m h1]; simp, e2⟩
theorem tree_ex {p : List Nat} (h : Ok 0 p) : ∃ t : T, t.sch = p := by
  obtain ⟨t, e, _⟩ := ok_tree p .nil h
  exact ⟨t, by rw [e]; rfl⟩
theorem ok_app : ∀ (p q : List Nat) (k k' : Nat), Ok k p → k' + p.sum = k + p.length → Ok k' q → Ok k (p ++ q)
  | [], q, k, k', _, e, h => by
    have : k' = k := by simpa using e
    subst this; exact h
  | m :: r, q, k, k', h, e, hq => ⟨h.1, ok_app r q (k - m + 1) k' h.2 (by have := h.1; simp at e; omega) hq⟩
theorem ok_sch_from : ∀ (t : T) (k : Nat), Ok k t.sch
  | .nil, _ => trivial
  | .node l r, k => by
    refine ok_app l.sch _ k (k + l.runs) (ok_sch_from l k) (by have := T.sum_sch l; rw [T.sch_len]; omega) ?_
    exact ⟨by omega, ok_sch_from r _⟩
theorem ok_take : ∀ (p : List Nat) (k i : Nat), Ok k p → Ok k (p.take i)
  | [], _, i, _ => by cases i <;> trivial
  | m :: r, k, 0, _ => trivial
  | m :: r, k, i + 1, h => ⟨h.1, ok_take r _ i h.2⟩
/-- the tree of the first i flushes -/
def pre (t : T) (i : Nat) : T := (t.sch.take i).foldl T.push .nil
theorem pre_sch (t : T) (i : Nat) : (pre t i).sch = t.sch.take i := by
  obtain ⟨u, e1, e2⟩ := ok_tree (t.sch.take i) .nil (ok_take _ _ i (ok_sch_from t _))
  unfold pre; rw [e2, e1]; rfl
theorem pre_size {t : T} {i : Nat} (h : i ≤ t.size) : (pre t i).size = i := by
  rw [← T.sch_len, pre_sch, List.length_take, T.sch_len]; omega
theorem pre_zero (t : T) : pre t 0 = .nil := rfl
theorem pre_all (t : T) : pre t t.size = t := T.sch_inj (by rw [pre_sch, List.take_of_length_le (by rw [T.sch_len]; exact Nat.le_refl _)])
theorem ok_last : ∀ (p : List Nat) (k m : Nat) (q : List Nat), Ok k (p ++ m :: q) → m + p.sum ≤ k + p.length
  | [], k, m, q, h => by simpa using h.1
  | a :: r, k, m, q, h => by
    have := ok_last r (k - a + 1) m q h.2
    have h1 := h.1
    simp; omega
theorem pre_succ {t : T} {i : Nat} {m : Nat} (h : t.sch[i]? = some m) : pre t (i + 1) = (pre t i).push m ∧ m ≤ (pre t i).runs := by
  have hi : i < t.sch.length := (List.getElem?_eq_some_iff.mp h).1
  constructor
  · unfold pre
    rw [List.take_add_one, h]
    simp
  · have e : t.sch = t.sch.take i ++ m :: t.sch.drop (i + 1) := by
      have h2 := List.getElem?_eq_some_iff.mp h
      obtain ⟨h3, h4⟩ := h2
      rw [← h4]
      simp
    have h1 := ok_sch_from t 0
    rw [e] at h1
    have h2 := ok_last _ _ _ _ h1
    have h3 := T.sum_sch (pre t i)
    rw [pre_sch] at h3
    have h4 : (pre t i).size = (t.sch.take i).length := by rw [← T.sch_len, pre_sch]
    omega
theorem rc_take : ∀ (t : T) (i : Nat), (pre t i).rc = t.rc.take i := by
  intro t i
  by_cases hi : i ≤ t.size
  · suffices h : ∀ k, i + k = t.size → (pre t i).rc = t.rc.take i from h (t.size - i) (by omega)
    intro k
    induction k generalizing i with
    | zero =>
      intro e
      rw [show i = t.size by omega, pre_all, List.take_of_length_le (by rw [T.rc_len]; omega)]
    | succ k ih =>
      intro e
      have hl : i < t.sch.length := by rw [T.sch_len]; omega
      obtain ⟨e1, h1⟩ := pre_succ (List.getElem?_eq_getElem hl)
      have h2 := ih (i + 1) (by omega) (by omega)
      rw [e1, T.push_rc _ _ h1] at h2
      have h3 := congrArg (List.take i) h2
      rw [List.take_append_of_le_length (by rw [T.rc_len, pre_size (by omega)]; omega), List.take_take, List.take_of_length_le (by rw [T.rc_len, pre_size (by omega)]; omega)] at h3
      rw [h3]; congr 1; omega
  · have e : t.sch.take i = t.sch := List.take_of_length_le (by rw [T.sch_len]; omega)
    have : pre t i = t := T.sch_inj (by rw [pre_sch, e])
    rw [this, List.take_of_length_le (by rw [T.rc_len]; omega)]
theorem rc_at {t : T} {i m : Nat} (h : t.sch[i]? = some m) : t.rc[i]? = some ((pre t i).runs - m + 1) := by
  obtain ⟨e1, h1⟩ := pre_succ h
  have hi : i < t.size := by rw [← T.sch_len]; exact (List.getElem?_eq_some_iff.mp h).1
  have h2 := rc_take t (i + 1)
  rw [e1, T.push_rc _ _ h1] at h2
  have h3 := congrArg (fun l : List Nat => l[i]?) h2
  simp only [List.getElem?_take] at h3
  rw [List.getElem?_append_right (by rw [T.rc_len, pre_size (by omega)]; omega), T.rc_len, pre_size (by omega)] at h3
  simp at h3
  exact h3.symm
theorem pre_runs {t : T} {i : Nat} (h : i < t.size) : t.rc[i]? = some (pre t (i + 1)).runs := by
  have hl : i < t.sch.length := by rw [T.sch_len]; exact h
  obtain ⟨e1, h1⟩ := pre_succ (List.getElem?_eq_getElem hl)
  rw [rc_at (List.getElem?_eq_getElem hl), e1, T.push_runs _ _ h1]
/-! ### write counts by place -/
theorem wr_step {t : T} {m : Nat} (h : m ≤ t.runs) (k : Nat) : ((t.push m).wr.getD k 0) = if t.start m ≤ k ∧ k < t.size + 1 then t.wr.getD k 0 + 1 else t.wr.getD k 0 := by
  have hs := T.start_le t m h
  have hl := T.wr_len t
  rw [T.push_wr t m h]
  simp only [List.getD_eq_getElem?_getD]
  by_cases h1 : k < t.start m
  · rw [List.getElem?_append_left (by rw [List.length_take]; omega), List.getElem?_take, if_pos h1, if_neg (by omega)]
  · have e : (t.wr.take (t.start m)).length = t.start m := by rw [List.length_take]; omega
    rw [List.getElem?_append_right (by omega), e]
    by_cases h2 : k < t.size
    · rw [List.getElem?_append_left (by rw [List.length_map, List.length_drop]; omega), List.getElem?_map, List.getElem?_drop, if_pos (by omega), show t.start m + (k - t.start m) = k by omega]
      rw [List.getElem?_eq_getElem (by omega)]
      rfl
    · by_cases h3 : k = t.size
      · have e2 : ((t.wr.drop (t.start m)).map (· + 1)).length = k - t.start m := by rw [List.length_map, List.length_drop]; omega
        rw [List.getElem?_append_right (by omega), e2, Nat.sub_self, if_pos (by omega), List.getElem?_eq_none (by omega : t.wr.length ≤ k)]
        rfl
      · rw [List.getElem?_eq_none (by simp; omega), if_neg (by omega), List.getElem?_eq_none (by omega : t.wr.length ≤ k)]
theorem list_by {c d : List Nat} (hl : c.length = d.length) (h : ∀ k, k < c.length → c[k]? = some (d.getD k 0)) : c = d := by
  refine List.ext_getElem? fun k => ?_
  by_cases hk : k < c.length
  · rw [h k hk, List.getD_eq_getElem?_getD, List.getElem?_eq_getElem (by omega)]
    rfl
  · rw [List.getElem?_eq_none (by omega), List.getElem?_eq_none (by omega)]
theorem stk_last {t : T} {i m : Nat} (h : t.sch[i]? = some m) : (pre t (i + 1)).stk 0 = ((pre t i).stk 0).take ((pre t i).runs - m) ++ [((pre t i).start m, i + 1)] := by
  obtain ⟨e, h1⟩ := pre_succ h
  have hi : i < t.size := by rw [← T.sch_len]; exact (List.getElem?_eq_some_iff.mp h).1
  rw [e, T.stk_push _ _ h1, Nat.zero_add, Nat.zero_add, pre_size (by omega)]

/-! ### subtrees -/
inductive Sub (t : T) : Nat → T → Nat → Int → Prop
  | root : Sub t 0 t 1 (-1)
  | left {off k : Nat} {p : Int} {l r : T} : Sub t off (.node l r) k p → Sub t off l k ((off + l.size : Nat) : Int)
  | right {off k : Nat} {p : Int} {l r : T} : Sub t off (.node l r) k p → Sub t (off + l.size + 1) r (k + 1) ((off + l.size : Nat) : Int)
def T.parOf (t : T) : List Int := t.par 0 (-1)
theorem slice_left {α : Type} {L a b : List α} {x : α} {off : Nat} (h : (L.drop off).take (a.length + 1 + b.length) = a ++ x :: b) : (L.drop off).take a.length = a := by
  have := congrArg (List.take a.length) h
  rw [List.take_take, List.take_left' rfl, show min a.length (a.length + 1 + b.length) = a.length by omega] at this
  exact this
theorem slice_mid {α : Type} {L a b : List α} {x : α} {off : Nat} (h : (L.drop off).take (a.length + 1 + b.length) = a ++ x :: b) : L[off + a.length]? = some x := by
  have := congrArg (fun l : List α => l[a.length]?) h
  simp only [List.getElem?_take, List.getElem?_drop] at this
  rw [if_pos (by omega), List.getElem?_append_right (Nat.le_refl _), Nat.sub_self] at this
  simpa using this
theorem slice_right {α : Type} {L a b : List α} {x : α} {off : Nat} (h : (L.drop off).take (a.length + 1 + b.length) = a ++ x :: b) : (L.drop (off + a.length + 1)).take b.length = b := by
  have := congrArg (List.drop (a.length + 1)) h
  rw [List.drop_take, List.drop_drop] at this
  have e2 : List.drop (a.length + 1) (a ++ x :: b) = b := by
    rw [List.drop_append]; simp
  rw [e2] at this
  have h2 := congrArg (List.take b.length) this
  rw [List.take_take, List.take_length] at h2
  rw [← Nat.add_assoc] at h2
  rw [show b.length = min b.length (a.length + 1 + b.length - (a.length + 1)) by omega]
  exact h2
theorem sub_le {t : T} {off k : Nat} {s : T} {p : Int} (h : Sub t off s k p) : off + s.size ≤ t.size ∧ 1 ≤ k ∧ k ≤ off + 1 := by
  induction h with
  | root => exact ⟨by omega, by omega, by omega⟩
  | left _ ih => simp only [T.size] at ih; omega
  | right _ ih => simp only [T.size] at ih; omega
theorem sub_out {t : T} {off k : Nat} {s : T} {p : Int} (h : Sub t off s k p) : (p = -1 ∨ ((0 ≤ p ∧ p < t.size) ∧ (p + 1 = off ∨ p = ((off + s.size : Nat) : Int)))) := by
  cases h with
  | root => exact .inl rfl
  | left h => have := sub_le h; simp only [T.size] at this; exact .inr ⟨by omega, .inr rfl⟩
  | right h => have := sub_le h; simp only [T.size] at this; exact .inr ⟨by omega, .inl (by omega)⟩
theorem sub_rc {t : T} {off k : Nat} {s : T} {p : Int} (h : Sub t off s k p) : (t.rc.drop off).take s.size = s.rc.map (· + (k - 1)) := by
  induction h with
  | root => simp [← T.rc_len]
  | @left off k p l r h ih =>
    have e : (T.node l r).rc.map (· + (k - 1)) = l.rc.map (· + (k - 1)) ++ (1 + (k - 1)) :: (r.rc.map (· + 1)).map (· + (k - 1)) := by simp [T.rc]
    rw [e] at ih
    have hl : (l.rc.map (· + (k - 1))).length = l.size := by rw [List.length_map, T.rc_len]
    have hr : ((r.rc.map (· + 1)).map (· + (k - 1))).length = r.size := by rw [List.length_map, List.length_map, T.rc_len]
    have := slice_left (a := l.rc.map (· + (k - 1))) (b := (r.rc.map (· + 1)).map (· + (k - 1))) (L := t.rc) (off := off) (x := 1 + (k - 1)) (by rw [hl, hr]; exact ih)
    rw [hl] at this
    exact this
  | @right off k p l r h ih =>
    have e : (T.node l r).rc.map (· + (k - 1)) = l.rc.map (· + (k - 1)) ++ (1 + (k - 1)) :: (r.rc.map (· + 1)).map (· + (k - 1)) := by simp [T.rc]
    rw [e] at ih
    have hl : (l.rc.map (· + (k - 1))).length = l.size := by rw [List.length_map, T.rc_len]
    have hr : ((r.rc.map (· + 1)).map (· + (k - 1))).length = r.size := by rw [List.length_map, List.length_map, T.rc_len]
    have := slice_right (a := l.rc.map (· + (k - 1))) (b := (r.rc.map (· + 1)).map (· + (k - 1))) (L := t.rc) (off := off) (x := 1 + (k - 1)) (by rw [hl, hr]; exact ih)
    rw [hl, hr] at this
    rw [this, List.map_map]
    refine List.map_congr_left fun a _ => ?_
    have := (sub_le h).2.1
    simp only [Function.comp]
    omega
theorem sub_par {t : T} {off k : Nat} {s : T} {p : Int} (h : Sub t off s k p) : (t.parOf.drop off).take s.size = s.par (off : Int) p := by
  induction h with
  | root => simp only [T.parOf]; rw [List.drop_zero, List.take_of_length_le (by rw [T.par_len]; omega)]; rfl
  | @left off k p l r h ih =>
    simp only [T.par] at ih
    have hl := T.par_len l (off : Int) ((off : Int) + l.size)
    have hr := T.par_len r ((off : Int) + l.size + 1) ((off : Int) + l.size)
    have := slice_left (a := l.par (off : Int) ((off : Int) + l.size)) (b := r.par ((off : Int) + l.size + 1) ((off : Int) + l.size)) (L := t.parOf) (off := off) (x := p) (by rw [hl, hr]; exact ih)
    rw [hl] at this
    rw [this, Int.natCast_add]
  | @right off k p l r h ih =>
    simp only [T.par] at ih
    have hl := T.par_len l (off : Int) ((off : Int) + l.size)
    have hr := T.par_len r ((off : Int) + l.size + 1) ((off : Int) + l.size)
    have := slice_right (a := l.par (off : Int) ((off : Int) + l.size)) (b := r.par ((off : Int) + l.size + 1) ((off : Int) + l.size)) (L := t.parOf) (off := off) (x := p) (by rw [hl, hr]; exact ih)
    rw [hl, hr] at this
    rw [this]
    simp only [Int.natCast_add]
    rfl
theorem sub_root {t : T} {off k : Nat} {l r : T} {p : Int} (h : Sub t off (.node l r) k p) : t.parOf[off + l.size]? = some p := by
  have ih := sub_par h
  simp only [T.par] at ih
  have hl := T.par_len l (off : Int) ((off : Int) + l.size)
  have hr := T.par_len r ((off : Int) + l.size + 1) ((off : Int) + l.size)
  have := slice_mid (a := l.par (off : Int) ((off : Int) + l.size)) (b := r.par ((off : Int) + l.size + 1) ((off : Int) + l.size)) (L := t.parOf) (off := off) (x := p) (by rw [hl, hr]; exact ih)
  rw [hl] at this
  exact this
/-- the parents of a subtree: the root's alone lies outside -/
theorem par_in : ∀ (s : T) (off p : Int) (i : Nat) (q : Int), (s.par off p)[i]? = some q → (∃ l r, s = .node l r ∧ i = l.size ∧ q = p) ∨ (off ≤ q ∧ q < off + s.size ∧ ∀ l r, s = .node l r → i ≠ l.size)
  | .nil, _, _, _, _, h => by simp [T.par] at h
  | .node l r, off, p, i, q, h => by
    simp only [T.par] at h
    have hl := T.par_len l off (off + l.size)
    by_cases h1 : i < l.size
    · rw [List.getElem?_append_left (by omega)] at h
      refine .inr ?_
      rcases par_in l off (off + l.size) i q h with ⟨a, b, e, e2, e3⟩ | ⟨h2, h3, _⟩
      · refine ⟨by omega, by simp only [T.size]; omega, fun l' r' e' => by cases e'; omega⟩
      · refine ⟨by omega, by simp only [T.size]; omega, fun l' r' e' => by cases e'; omega⟩
    · rw [List.getElem?_append_right (by omega), hl] at h
      by_cases h2 : i = l.size
      · subst h2
        rw [Nat.sub_self] at h
        have : p = q := by simpa using h
        exact .inl ⟨l, r, rfl, rfl, this.symm⟩
      · obtain ⟨j, e⟩ : ∃ j, i - l.size = j + 1 := ⟨i - l.size - 1, by omega⟩
        rw [e, List.getElem?_cons_succ] at h
        refine .inr ?_
        rcases par_in r (off + l.size + 1) (off + l.size) j q h with ⟨a, b, e4, e2, e3⟩ | ⟨h4, h3, _⟩
        · refine ⟨by omega, by simp only [T.size]; omega, fun l' r' e' => by cases e'; omega⟩
        · refine ⟨by omega, by simp only [T.size]; omega, fun l' r' e' => by cases e'; omega⟩
theorem rc_pos : ∀ (s : T) (i v : Nat), s.rc[i]? = some v → 1 ≤ v
  | .nil, _, _, h => by simp [T.rc] at h
  | .node l r, i, v, h => by
    simp only [T.rc] at h
    by_cases h1 : i < l.size
    · rw [List.getElem?_append_left (by rw [T.rc_len]; exact h1)] at h
      exact rc_pos l i v h
    · rw [List.getElem?_append_right (by rw [T.rc_len]; omega), T.rc_len] at h
      rcases Nat.eq_zero_or_pos (i - l.size) with e | e
      · rw [e] at h; simp at h; omega
      · obtain ⟨j, e⟩ : ∃ j, i - l.size = j + 1 := ⟨i - l.size - 1, by omega⟩
        rw [e, List.getElem?_cons_succ, List.getElem?_map] at h
        cases h2 : r.rc[j]? with
        | none => rw [h2] at h; cases h
        | some u => rw [h2] at h; simp at h; omega
theorem rc_one {l r : T} {i : Nat} (h : (T.node l r).rc[i]? = some 1) : i ≤ l.size := by
  simp only [T.rc] at h
  by_cases h1 : i ≤ l.size
  · exact h1
  · rw [List.getElem?_append_right (by rw [T.rc_len]; omega), T.rc_len] at h
    obtain ⟨j, e⟩ : ∃ j, i - l.size = j + 1 := ⟨i - l.size - 1, by omega⟩
    rw [e, List.getElem?_cons_succ, List.getElem?_map] at h
    cases h2 : r.rc[j]? with
    | none => rw [h2] at h; cases h
    | some u =>
      have := rc_pos r j u h2
      rw [h2] at h; simp at h; omega
theorem rc_root (l r : T) : (T.node l r).rc[l.size]? = some 1 := by
  simp only [T.rc]
  rw [List.getElem?_append_right (by rw [T.rc_len]; exact Nat.le_refl _), T.rc_len, Nat.sub_self]; rfl
theorem sub_rc_at {t : T} {off k : Nat} {s : T} {p : Int} (h : Sub t off s k p) {i : Nat} (hi : i < s.size) : ∃ v, s.rc[i]? = some v ∧ t.rc[off + i]? = some (v + (k - 1)) := by
  have e := congrArg (fun l : List Nat => l[i]?) (sub_rc h)
  simp only [List.getElem?_take, List.getElem?_drop, List.getElem?_map] at e
  rw [if_pos hi] at e
  have hv := List.getElem?_eq_getElem (show i < s.rc.length by rw [T.rc_len]; exact hi)
  rw [hv] at e
  exact ⟨_, hv, e⟩
theorem sub_par_at {t : T} {off k : Nat} {s : T} {p : Int} (h : Sub t off s k p) {i : Nat} (hi : i < s.size) : ∃ q, (s.par (off : Int) p)[i]? = some q ∧ t.parOf[off + i]? = some q := by
  have e := congrArg (fun l : List Int => l[i]?) (sub_par h)
  simp only [List.getElem?_take, List.getElem?_drop] at e
  rw [if_pos hi] at e
  have hv := List.getElem?_eq_getElem (show i < (s.par (off : Int) p).length by rw [T.par_len]; exact hi)
  rw [hv] at e
  exact ⟨_, hv, e⟩
theorem filter_one {f : Nat → Bool} {n c : Nat} (hc : c < n) (h1 : f c = true) (h2 : ∀ i, i < n → f i = true → i = c) : (List.range n).filter f = [c] := by
  induction n with
  | zero => omega
  | succ n ih =>
    rw [List.range_succ, List.filter_append]
    by_cases e : c = n
    · subst e
      have e0 : (List.range c).filter f = [] := List.filter_eq_nil_iff.mpr fun i hi hf => by
        have := List.mem_range.mp hi
        have := h2 i (by omega) hf
        omega
      rw [e0]; simp [h1]
    · rw [ih (by omega) fun i hi hf => h2 i (by omega) hf]
      have : f n = false := by
        cases hf : f n with
        | false => rfl
        | true => exact absurd (h2 n (by omega) hf) (by omega)
      simp [this]
/-- the work of a list of subtrees -/
def todo : List (Nat × T × Nat × Int) → Nat
  | [] => 0
  | x :: r => 2 * x.2.1.size + 1 + todo r
theorem todo_app : ∀ a b, todo (a ++ b) = todo a + todo b
  | [], b => by simp [todo]
  | x :: r, b => by simp [todo, todo_app r b]; omega
theorem len_todo : ∀ L, L.length ≤ todo L
  | [] => Nat.le_refl _
  | x :: r => by have := len_todo r; simp [todo]; omega

/-! ### one step up -/
theorem getD_app_l {a b : List Nat} {i : Nat} (h : i < a.length) : (a ++ b).getD i 0 = a.getD i 0 := by
  simp only [List.getD_eq_getElem?_getD, List.getElem?_append_left h]
theorem getD_app_r {a b : List Nat} {i : Nat} (h : a.length ≤ i) : (a ++ b).getD i 0 = b.getD (i - a.length) 0 := by
  simp only [List.getD_eq_getElem?_getD, List.getElem?_append_right h]
theorem getD_map1 {a : List Nat} {i : Nat} (h : i < a.length) : (a.map (· + 1)).getD i 0 = a.getD i 0 + 1 := by
  simp only [List.getD_eq_getElem?_getD, List.getElem?_map, List.getElem?_eq_getElem h]; rfl
theorem wr_l {l r : T} {i : Nat} (h : i < l.size) : (T.node l r).wr.getD i 0 = l.wr.getD i 0 + 1 := by
  simp only [T.wr]
  rw [getD_app_l (by rw [List.length_map, T.wr_len]; exact h), getD_map1 (by rw [T.wr_len]; exact h)]
theorem wr_m {l r : T} : (T.node l r).wr.getD l.size 0 = 1 := by
  simp only [T.wr]
  rw [getD_app_r (by rw [List.length_map, T.wr_len]; exact Nat.le_refl _), List.length_map, T.wr_len, Nat.sub_self]; rfl
theorem wr_r {l r : T} {j : Nat} : (T.node l r).wr.getD (l.size + 1 + j) 0 = r.wr.getD j 0 := by
  simp only [T.wr]
  rw [getD_app_r (by rw [List.length_map, T.wr_len]; omega), List.length_map, T.wr_len, show l.size + 1 + j - l.size = j + 1 by omega, List.getD_cons_succ]
theorem rc_l {l r : T} {i : Nat} (h : i < l.size) : (T.node l r).rc.getD i 0 = l.rc.getD i 0 := by
  simp only [T.rc]
  rw [getD_app_l (by rw [T.rc_len]; exact h)]
theorem rc_m {l r : T} : (T.node l r).rc.getD l.size 0 = 1 := by
  simp only [T.rc]
  rw [getD_app_r (by rw [T.rc_len]; exact Nat.le_refl _), T.rc_len, Nat.sub_self]; rfl
theorem rc_r {l r : T} {j : Nat} (h : j < r.size) : (T.node l r).rc.getD (l.size + 1 + j) 0 = r.rc.getD j 0 + 1 := by
  simp only [T.rc]
  rw [getD_app_r (by rw [T.rc_len]; omega), T.rc_len, show l.size + 1 + j - l.size = j + 1 by omega, List.getD_cons_succ, getD_map1 (by rw [T.rc_len]; exact h)]
theorem up : ∀ (s : T) (off p : Int) (i : Nat) (q : Int), (s.par off p)[i]? = some q →
    (q = p ∧ s.wr.getD i 0 = 1 ∧ s.rc.getD i 0 = 1) ∨
    ∃ j : Nat, q = off + j ∧ j < s.size ∧ j ≠ i ∧ (i < j → s.wr.getD i 0 = s.wr.getD j 0 + 1 ∧ s.rc.getD i 0 = s.rc.getD j 0) ∧ (j < i → s.wr.getD i 0 = s.wr.getD j 0 ∧ s.rc.getD i 0 = s.rc.getD j 0 + 1)
  | .nil, _, _, _, _, h => by simp [T.par] at h
  | .node l r, off, p, i, q, h => by
    simp only [T.par] at h
    have hl := T.par_len l off (off + l.size)
    by_cases h1 : i < l.size
    · rw [List.getElem?_append_left (by omega)] at h
      refine .inr ?_
      rcases up l off (off + l.size) i q h with ⟨e, e1, e2⟩ | ⟨j, e, hj, hne, c1, c2⟩
      · exact ⟨l.size, e, by simp only [T.size]; omega, by omega, fun _ => ⟨by rw [wr_l h1, wr_m, e1], by rw [rc_l h1, rc_m, e2]⟩, fun z => by omega⟩
      · exact ⟨j, e, by simp only [T.size]; omega, hne, fun z => ⟨by rw [wr_l h1, wr_l hj, (c1 z).1], by rw [rc_l h1, rc_l hj, (c1 z).2]⟩, fun z => ⟨by rw [wr_l h1, wr_l hj, (c2 z).1], by rw [rc_l h1, rc_l hj, (c2 z).2]⟩⟩
    · rw [List.getElem?_append_right (by omega), hl] at h
      by_cases h2 : i = l.size
      · subst h2
        rw [Nat.sub_self] at h
        have : p = q := by simpa using h
        exact .inl ⟨this.symm, wr_m, rc_m⟩
      · obtain ⟨k, e⟩ : ∃ k, i = l.size + 1 + k := ⟨i - l.size - 1, by omega⟩
        subst e
        rw [show l.size + 1 + k - l.size = k + 1 by omega, List.getElem?_cons_succ] at h
        have hk : k < r.size := by
          have := (List.getElem?_eq_some_iff.mp h).1
          rw [T.par_len] at this; exact this
        refine .inr ?_
        rcases up r (off + l.size + 1) (off + l.size) k q h with ⟨e, e1, e2⟩ | ⟨j, e, hj, hne, c1, c2⟩
        · exact ⟨l.size, e, by simp only [T.size]; omega, by omega, fun z => by omega, fun _ => ⟨by rw [wr_r, wr_m, e1], by rw [rc_r hk, rc_m, e2]⟩⟩
        · exact ⟨l.size + 1 + j, by rw [e]; omega, by simp only [T.size]; omega, by omega, fun z => ⟨by rw [wr_r, wr_r, (c1 (by omega)).1], by rw [rc_r hk, rc_r hj, (c1 (by omega)).2]⟩, fun z => ⟨by rw [wr_r, wr_r, (c2 (by omega)).1], by rw [rc_r hk, rc_r hj, (c2 (by omega)).2]⟩⟩
theorem wr_pos {t : T} {i : Nat} (h : i < t.size) : 1 ≤ t.wr.getD i 0 := by
  induction t generalizing i with
  | nil => simp [T.size] at h
  | node l r ihl ihr =>
    by_cases h1 : i < l.size
    · rw [wr_l h1]; omega
    · by_cases h2 : i = l.size
      · subst h2; rw [wr_m]; exact Nat.le_refl _
      · obtain ⟨k, e⟩ : ∃ k, i = l.size + 1 + k := ⟨i - l.size - 1, by omega⟩
        subst e
        rw [wr_r]; exact ihr (by simp only [T.size] at h; omega)
theorem rc_posD {t : T} {i : Nat} (h : i < t.size) : 1 ≤ t.rc.getD i 0 := by
  have := List.getElem?_eq_getElem (show i < t.rc.length by rw [T.rc_len]; exact h)
  rw [List.getD_eq_getElem?_getD, this]
  exact rc_pos t i _ this

/-! ### mirrors -/
def mirN (N : Int) (q : Int) : Int := if q = -1 then -1 else N - 1 - q
theorem mir_size : ∀ t : T, t.mir.size = t.size
  | .nil => rfl
  | .node l r => by simp [T.mir, T.size, mir_size l, mir_size r]; omega
theorem mir_par : ∀ (s : T) (N off p : Int), 0 ≤ off → ((s.par off p).reverse).map (mirN N) = s.mir.par (N - off - s.size) (mirN N p)
  | .nil, _, _, _, _ => rfl
  | .node l r, N, off, p, h => by
    simp only [T.par, T.mir, List.reverse_append, List.reverse_cons, List.map_append, List.map_cons, List.map_nil]
    rw [mir_par l N off (off + l.size) h, mir_par r N (off + l.size + 1) (off + l.size) (by omega), mir_size]
    have e1 : mirN N (off + l.size) = N - 1 - (off + l.size) := by unfold mirN; rw [if_neg (by omega)]
    rw [e1]
    have e2 : N - off - ((T.node l r).size : Int) = N - (off + l.size + 1) - r.size := by simp only [T.size]; omega
    rw [e2]
    have e3 : N - (off + ↑l.size + 1) - ↑r.size + ↑r.size = N - 1 - (off + ↑l.size) := by omega
    rw [e3, show N - 1 - (off + (l.size : Int)) + 1 = N - off - l.size by omega]
    simp
theorem mir_parOf (t : T) : t.mir.parOf = (t.parOf.reverse).map (mirN t.size) := by
  unfold T.parOf
  rw [mir_par t t.size 0 (-1) (by omega)]
  rw [show ((t.size : Int) - 0 - t.size) = 0 by omega]
  rfl
theorem mir_wr : ∀ t : T, t.mir.wr = t.rc.reverse
  | .nil => rfl
  | .node l r => by simp [T.mir, T.wr, T.rc, mir_wr l, mir_wr r]
theorem mir_rc : ∀ t : T, t.mir.rc = t.wr.reverse
  | .nil => rfl
  | .node l r => by simp [T.mir, T.wr, T.rc, mir_rc l, mir_rc r]
theorem mir_mir : ∀ t : T, t.mir.mir = t
  | .nil => rfl
  | .node l r => by simp [T.mir, mir_mir l, mir_mir r]

/-! ### parents of a joined tree -/
theorem par_below {N : Int} : ∀ (s : T) (off p : Int), 0 ≤ off → (s.par off p).map (fun q => if q = -1 then N else q) = s.par off (if p = -1 then N else p)
  | .nil, _, _, _ => rfl
  | .node l r, off, p, h => by
    simp only [T.par, List.map_append, List.map_cons]
    rw [par_below l off _ h, par_below r (off + l.size + 1) _ (by omega), if_neg (by omega : ¬ off + (l.size : Int) = -1)]
theorem par_beyond {N : Int} : ∀ (s : T) (off p : Int), 0 ≤ off → (s.par off p).map (fun q => if q = -1 then N else q + N + 1) = s.par (off + N + 1) (if p = -1 then N else p + N + 1)
  | .nil, _, _, _ => rfl
  | .node l r, off, p, h => by
    simp only [T.par, List.map_append, List.map_cons]
    rw [par_beyond l off _ h, par_beyond r (off + l.size + 1) _ (by omega), if_neg (by omega : ¬ off + (l.size : Int) = -1)]
    have e1 : off + (l.size : Int) + N + 1 = off + N + 1 + l.size := by omega
    have e2 : off + (l.size : Int) + 1 + N + 1 = off + N + 1 + l.size + 1 := by omega
    rw [e1, e2]
theorem parOf_node (s u : T) : (T.node s u).parOf = s.parOf.map (fun q => if q = -1 then (s.size : Int) else q) ++ [-1] ++ u.parOf.map (fun q => if q = -1 then (s.size : Int) else q + s.size + 1) := by
  unfold T.parOf
  rw [par_below s 0 (-1) (by omega), par_beyond u 0 (-1) (by omega)]
  simp only [T.par]
  simp
theorem parOf_root (s u : T) : (T.node s u).parOf[s.size]? = some (-1) := by
  have := sub_root (t := T.node s u) .root
  simpa using this
theorem parOf_first {s u : T} {m : Nat} (h : m < s.size) : (T.node s u).parOf[m]? ≠ some (-1) := fun e => by
  rcases par_in _ _ _ _ _ e with ⟨l, r, e1, e2, _⟩ | ⟨h1, _, _⟩
  · cases e1; omega
  · omega

/-! ### runs as lists of flushes -/
theorem stk_pair : ∀ (t : T) (off j : Nat), j + 1 ≤ t.runs → (t.stk off)[t.runs - (j + 1)]? = some (off + t.start (j + 1), off + t.start j)
  | .nil, _, _, h => by simp [T.runs] at h
  | .node l r, off, j, h => by
    by_cases e : j = r.runs
    · subst e
      have e1 : (T.node l r).runs = r.runs + 1 := by simp [T.runs]; omega
      rw [e1, Nat.sub_self, ← e1, T.start_eq, T.start_node (Nat.le_refl _), T.start_eq]
      rfl
    · have h1 : j + 1 ≤ r.runs := by simp [T.runs] at h; omega
      have e1 : (T.node l r).runs - (j + 1) = (r.runs - (j + 1)) + 1 := by simp [T.runs]; omega
      rw [e1, T.start_node h1, T.start_node (by omega)]
      simp only [T.stk, List.getElem?_cons_succ]
      rw [stk_pair r (off + l.size + 1) j h1]
      congr 2 <;> omega
theorem start_anti : ∀ (t : T) (j : Nat), j + 1 ≤ t.runs → t.start (j + 1) < t.start j
  | .nil, _, h => by simp [T.runs] at h
  | .node l r, j, h => by
    by_cases e : j = r.runs
    · subst e
      have e1 : (T.node l r).runs = r.runs + 1 := by simp [T.runs]; omega
      rw [← e1, T.start_eq, T.start_node (Nat.le_refl _), T.start_eq]
      omega
    · have h1 : j + 1 ≤ r.runs := by simp [T.runs] at h; omega
      rw [T.start_node h1, T.start_node (by omega)]
      have := start_anti r j h1
      omega
/-- the flushes of [a, b) -/
def seg (a b : Nat) : List Nat := List.range' a (b - a)
theorem seg_app {a b c : Nat} (h1 : a ≤ b) (h2 : b ≤ c) : seg a b ++ seg b c = seg a c := by
  unfold seg
  have := List.range'_append_1 (s := a) (m := b - a) (n := c - b)
  rw [show a + (b - a) = b by omega, show b - a + (c - b) = c - a by omega] at this
  exact this
theorem seg_one (a : Nat) : seg a (a + 1) = [a] := by
  unfold seg
  rw [show a + 1 - a = 1 by omega]; rfl
theorem seg_nil (a : Nat) : seg a a = [] := by unfold seg; rw [Nat.sub_self]; rfl
theorem seg_len (a b : Nat) : (seg a b).length = b - a := by unfold seg; rw [List.length_range']
theorem seg_at {a b k : Nat} (h : a + k < b) : (seg a b)[k]? = some (a + k) := by
  unfold seg
  rw [List.getElem?_range' (by omega)]
  simp
theorem stk_take_succ {t : T} {j : Nat} (off : Nat) (h : j + 1 ≤ t.runs) : (t.stk off).take (t.runs - j) = (t.stk off).take (t.runs - (j + 1)) ++ [(off + t.start (j + 1), off + t.start j)] := by
  rw [show t.runs - j = (t.runs - (j + 1)) + 1 by omega, List.take_add_one, stk_pair t off j h]; rfl
/-- adjacent, from off on -/
theorem stk_starts : ∀ (t : T) (off : Nat), (t.stk off).map (·.1) = (off :: (t.stk off).map (·.2)).dropLast
  | .nil, _ => rfl
  | .node l r, off => by
    have ih := stk_starts r (off + l.size + 1)
    simp only [T.stk, List.map_cons]
    rw [ih]; rfl
theorem stk_stops : ∀ (t : T) (off : Nat), (off :: (t.stk off).map (·.2)).getLast? = some (off + t.size)
  | .nil, off => by simp [T.stk, T.size]
  | .node l r, off => by
    have ih := stk_stops r (off + l.size + 1)
    simp only [T.stk, List.map_cons, T.size]
    rw [List.getLast?_cons_cons, ih]
    congr 1; omega
theorem stk_lt : ∀ (t : T) (off : Nat) (p : Nat × Nat), p ∈ t.stk off → off ≤ p.1 ∧ p.1 < p.2 ∧ p.2 ≤ off + t.size
  | .nil, _, _, h => by simp [T.stk] at h
  | .node l r, off, p, h => by
    simp only [T.stk] at h
    rcases List.mem_cons.mp h with rfl | h
    · simp only [T.size]; omega
    · have := stk_lt r _ p h
      simp only [T.size]; omega
end MB

set_option maxHeartbeats 4000000
namespace MB
open PySem PySem.Spec PyProof.Rows L2

/-! ### great powers -/
def CPowW (i j : Int) : Prop := 0 ≤ j ∧ (Builtin.Int.intBits i : Int) * j ≤ 2 ^ 27
theorem op_powW {X : Cx} : OpR X (binaryOp .Pow) (rI CPowW fun i j => .int (i ^ j.toNat)) := opI fun _ _ _ _ _ _ _ hc q => pow_int hc.1 hc.2 q

/-! ### xs[i] op= e -/
theorem get_list {X : Cx} : PGet X (rIxL X.K) := by
  intro pins s σ H x y v u Q I rx ry h
  obtain ⟨p, xs, i, z, rfl, rfl, hq, he, q⟩ := h
  cases rx
  obtain ⟨t, rfl⟩ := ry
  obtain ⟨its, r, pl, hz⟩ := I.list hq
  obtain ⟨j, h1, h2, h3, h4, h5⟩ := atI_get he
  obtain ⟨w, ew, rw'⟩ := r.get h2
  have hl := r.length
  have hn := line63
  have fin : EP X pins σ Q w s := ⟨z, H, I, rw', q⟩
  by_cases h0 : 0 ≤ i
  · have hj : i.toNat = j := by
      rw [seqIndex_of h0 h5] at h1
      exact Option.some.inj h1
    exact getItem_listL pl.isList h0 (by omega) (by rw [hj]; exact ew) fin
  · have hj : (i + (its.toArray.size : Int)).toNat = j := by
      rw [seqIndex_neg (by omega) h4] at h1
      rw [List.size_toArray, ← hl]
      exact Option.some.inj h1
    exact wpAny_getItem_list_neg pl.isList (by omega) (by rw [List.size_toArray] <;> omega) (by omega) (by rw [hj]; simpa using ew) fin

/-! ### sum of a tuple of ints -/
theorem ints_at : ∀ {ns : List Int} {its : List Value}, Vals (ns.map V.int) its → ∀ (i : Nat) (v : Value), its[i]? = some v → ∃ t, v = .int (ns.getD i 0) t
  | [], _, .nil, i, v, h => by simp at h
  | n :: ns, u :: us, .cons r rr, 0, v, h => by
    obtain ⟨t, rfl⟩ := r
    simp at h
    exact ⟨t, by simp [h]⟩
  | n :: ns, u :: us, .cons r rr, i + 1, v, h => by
    have := ints_at rr i v (by simpa using h)
    simpa using this
theorem preSum_getD (ns : List Int) : ∀ k, k ≤ ns.length → preSum (fun i => ns.getD i 0) k = (ns.take k).sum
  | 0, _ => by simp [preSum]
  | k + 1, h => by
    have e : ns[k]? = some (ns.getD k 0) := by
      rw [List.getElem?_eq_getElem (by omega), List.getD_eq_getElem?_getD, List.getElem?_eq_getElem (by omega)]
      rfl
    rw [preSum, preSum_getD ns k (by omega), L2.sum_take e]
def rSumT (K : PySem.W.Frag) : List V → Hp → VK → Prop := fun xs H Q => ∃ (a : Addr) (ns : List Int), xs = [V.ref a] ∧ SqT K H a (ns.map V.int) ∧ Q (.int ns.sum) H
theorem cr_sumT {X : Cx} (hc : X.calm = true) : CallR X (.builtin "sum") (rSumT X.K) := by
  intro pins s σ H vs us Q I r h
  obtain ⟨a, ns, rfl, hs, q⟩ := h
  obtain ⟨its, rv, hl, _⟩ := I.tuple hs
  rw [Vals.ref1 r]
  have hT : s.heap.IsTuple a its.toArray := hl
  have hlt : a < s.heap.objs.size := by obtain ⟨_, e, _⟩ := hl; exact Heap.lt_size e
  refine PySem.call_sum_walkG (wpAny_pyIter_tuple hT ?_)
  refine ⟨s.heap.objs.size, [s.heap.objs.size, a], [s.heap.objs.size], its.toArray.size, _, _, fun i => ns.getD i 0, rfl, Walks.tuple (A := X.A.in1) (I.ok.hd hc) _ a (Nat.ne_of_lt hlt) its.toArray, ⟨⟨_, Heap.get?_push_size _ rfl, rfl, rfl⟩, hT.at fun o e => Heap.get?_push_of_some _ e⟩, fun b hb => ?_, fun i v hv => ints_at rv i v (by simpa using hv), fun h' tk t' hk => ?_⟩
  · show b < (s.heap.push _).objs.size
    rw [Heap.size_push]
    have e : b = s.heap.objs.size ∨ b = a := by simpa using hb
    rcases e with e | e
    · rw [e]; exact Nat.lt_succ_self _
    · rw [e]; exact Nat.lt_succ_of_lt hlt
  · have el : its.toArray.size = ns.length := by rw [List.size_toArray, ← rv.length, List.length_map]
    rw [el, preSum_getD ns _ (Nat.le_refl _), List.take_length]
    refine ⟨.int ns.sum, H, I.kept fun b o e => hk b o ?_ (Heap.get?_push_of_some _ e), ⟨_, rfl⟩, q⟩
    have := Heap.lt_size e
    simp only [List.mem_singleton]
    exact Nat.ne_of_lt this

/-! ### enumerate(tuple) -/
set_option maxHeartbeats 4000000 in
theorem meets_enumerate_newT (l : Addr) (items : Array Value) (n : Nat) (dct : Option Addr) (sl : Array (Option Value)) :
    Meets (Builtin.«enumerate.__new__» ⟨[.type "enumerate", .ref l], []⟩) (fun _ R s => s.heap.get? l = some { cls := .type "tuple", dict := dct, data := .seq items n, slots := sl } ∧
      R (.ok (.ret (.ref (s.heap.push { cls := .type "tuple_iterator", data := .fields #[.ref l, .int 0 0] }).objs.size)))
        { s with heap := (s.heap.push { cls := .type "tuple_iterator", data := .fields #[.ref l, .int 0 0] }).push { cls := .type "enumerate", data := .fields #[.none, .bool false, .ref s.heap.objs.size, rawInt 0, .none, .none] } }) :=
  .of_wp fun prog w A R s h => by
    obtain ⟨hp, g, d, tk, os⟩ := s; obtain ⟨hl, h⟩ := h
    have hsub := sub_enumerate
    have hL : Heap.IsTuple (Shared.heap ⟨hp, g, d, tk, os⟩) l items := ⟨_, hl, rfl, n, rfl⟩
    wp_walk using AutoSeq1.wpAny_loadPart' hl
    refine wpAny_stack_any fun st => wpAny_pure ?_
    split
    · rename_i c _ _ _ _ _
      cases (c == Value.type "enumerate")
      · wp_walk using AutoSeq1.wpAny_loadPart' hl, wpAny_pyIter_tuple hL
        exact ⟨_, rfl, h⟩
      · wp_walk using AutoSeq1.wpAny_loadPart' hl, wpAny_pyIter_tuple hL
        exact ⟨_, rfl, h⟩
    · wp_walk using AutoSeq1.wpAny_loadPart' hl, wpAny_pyIter_tuple hL
      exact ⟨_, rfl, h⟩
section
variable {prog : Program} {w : World} {A : Around} {E : Value → Shared → Prop} {s : Shared}
theorem call_enumerate_tuple {l : Addr} {items : Array Value} {Q : Value → Shared → Prop} (hL : s.heap.IsTuple l items)
    (h : ∀ h', IsEnum h' (s.heap.objs.size + 1) s.heap.objs.size 0 .none → h'.IsTupleIter s.heap.objs.size l 0 → h'.objs.size = s.heap.objs.size + 2 →
      (∀ b o, s.heap.get? b = some o → h'.get? b = some o) → Q (.ref (s.heap.objs.size + 1)) { s with heap := h' }) :
    wpAny (model prog w) A (call (.type "enumerate") [.ref l]) Q E s := by
  obtain ⟨⟨c, dct, dt, sl⟩, hl, hc, n, hd⟩ := hL
  replace hc : c = .type "tuple" := hc
  replace hd : dt = .seq items n := hd
  subst hc hd
  refine callType_new F.called_enumerate (by decide) (F.typeCall_enumerate_1 _) (F.newCall_enumerate_1 _) (fun obj => F.args_object_init_2 obj _) F.entry_enumerate_new
    (meets_enumerate_newT l items n dct sl) ⟨hl, ?_⟩
  have hz : (s.heap.push { cls := .type "tuple_iterator", data := .fields #[.ref l, .int 0 0] }).objs.size = s.heap.objs.size + 1 := Heap.size_push ..
  show _ ∧ _
  rw [hz]
  have he : IsEnum ((s.heap.push { cls := .type "tuple_iterator", data := .fields #[.ref l, .int 0 0] }).push
      { cls := .type "enumerate", data := .fields #[.none, .bool false, .ref s.heap.objs.size, rawInt 0, .none, .none] }) (s.heap.objs.size + 1) s.heap.objs.size 0 .none := by
    have := Heap.get?_push_size (s.heap.push { cls := .type "tuple_iterator", data := .fields #[.ref l, .int 0 0] })
      (o := { cls := .type "enumerate", data := .fields #[.none, .bool false, .ref s.heap.objs.size, rawInt 0, .none, .none] }) rfl
    rw [hz] at this; exact this
  refine ⟨⟨_, he, rfl⟩, h _ he ⟨_, Heap.get?_push_of_some _ (Heap.get?_push_size _ rfl), rfl, rfl⟩ (by rw [Heap.size_push, hz]) fun b o x => Heap.get?_push_of_some _ (Heap.get?_push_of_some _ x)⟩
end
def IteT (K : PySem.W.Frag) (a : Addr) : It :=
  ⟨fun i H => ∃ (xs : List V) (x : V), SqT K H a xs ∧ xs[i]? = some x, fun i H v H' => ∃ T x, v = .ref T ∧ H T = none ∧ H' = upd H T (.tup [.int (i : Nat), x]) ∧ ∀ xs, SqT K H a xs → xs[i]? = some x, fun i H => ∃ xs : List V, SqT K H a xs ∧ xs.length = i⟩
theorem tup_ne {h : Heap} {a it : Addr} {items : Array Value} {i : Nat} (h1 : h.IsTuple a items) (h2 : h.IsTupleIter it a i) : a ≠ it := fun e => by
  obtain ⟨o, ho, hc, n, hd⟩ := h1
  obtain ⟨o', ho', hc', hd'⟩ := h2
  rw [e] at ho
  rw [ho] at ho'
  cases ho'
  rw [hd] at hd'
  cases hd'
theorem turn_enumT {P : Program} {w : World} {K : PySem.W.Frag} {elts : List Expr} {kk : Nat} {tpos : Pos} (a e it : Addr) (hae : a ≠ e) :
    Turn P w K (.Tuple elts kk tpos) (IteT K a) [e, it] e (fun i h => (∃ old, IsEnum h e it ((i : Nat) : Int) old) ∧ h.IsTupleIter it a i ∧ e ≠ it) where
  mem := by simp
  obj := fun i h st b hb => by
    obtain ⟨⟨old, he⟩, ⟨o, ho, hc, hd⟩, _⟩ := st
    have e' : b = e ∨ b = it := by simpa using hb
    rcases e' with z | z
    · rw [z]; exact ⟨_, he, fun v q => nomatch q⟩
    · rw [z]; exact ⟨o, ho, fun v q => by rw [hd] at q; cases q⟩
  keep := fun i h h' st k => let ⟨⟨old, he⟩, hi, hne⟩ := st; ⟨⟨old, k e (by simp) _ he⟩, hi.at fun o q => k it (by simp) o q, hne⟩
  item := by
    intro X hP hw hK hc i pins s σ H E I hf st hg
    subst hP hw hK
    obtain ⟨⟨old, he⟩, hit, hne⟩ := st
    obtain ⟨xs, x, hq, hx⟩ := hg
    obtain ⟨its, rv, p, hz⟩ := I.tuple hq
    have p : s.heap.IsTuple a its.toArray := p
    have hat : a ≠ it := tup_ne p hit
    have hel : e < s.heap.objs.size := Heap.lt_size he
    have hil : it < s.heap.objs.size := by obtain ⟨_, q, _⟩ := hit; exact Heap.lt_size q
    have hlen : i < its.toArray.size := by
      rw [List.size_toArray, ← rv.length]; exact (List.getElem?_eq_some_iff.mp hx).1
    refine wpAny_pyNext_enum_itemD (Draws.tuple (prog := X.prog) (w := X.w) (A := X.A.in1) (I.ok.hd hc) it a hat its.toArray) he ⟨hit, p⟩ hlen hne (by simp; exact ⟨hne, fun z => hae z.symm⟩) fun u h' tk hu ho hit' hT hsz hk => ?_
    obtain ⟨u', hu', ru'⟩ := rv.get hx
    have eu : u = u' := by
      have h1 : its[i]? = some u := by simpa using hu
      rw [h1] at hu'; exact Option.some.inj hu'
    subst eu
    refine ⟨_, rfl, wpAny_letOwnedTupleGo_enum (s := { s with heap := h', toks := tk + 1 }) ho fun h'' he' sb => ?_⟩
    have hT2 : h''.get? s.heap.objs.size = some { cls := .type "tuple", data := .seq #[.int i tk, u] } := (sb.2 _ (Nat.ne_of_gt hel)).trans hT
    have new : ObjOk X.prog X.w (upd H s.heap.objs.size (.tup [.int (i : Nat), x])) h'' s.heap.objs.size (.tup [.int (i : Nat), x]) :=
      ⟨by show 2 ≤ sizeLine; decide, [.int i tk, u], .cons ⟨_, rfl⟩ (.cons ru' .nil), ⟨_, hT2, rfl, _, rfl⟩⟩
    have I1 : Inv X pins σ (upd H s.heap.objs.size (.tup [.int (i : Nat), x])) { s with heap := h'', toks := tk + 1 } :=
      I.turnedNew (ch := [e, it]) (fun b ob hb q => (sb.2 b (fun z => hb (by simp [z]))).trans (hk b ob (fun z => hb (by simp [z])) (fun z => hb (by simp [z])) q)) hf (Nat.le_refl _) new
    refine ⟨.ref s.heap.objs.size, _, I1, rfl, ⟨_, x, rfl, I.hok.fresh (Nat.le_refl _), rfl, fun ys hy => by rw [I.tuple_inj hy hq]; exact hx⟩, ⟨⟨u, ?_⟩, hit'.1.at fun o q => (sb.2 it (Ne.symm hne)).trans q, hne⟩, fun b hb => ?_⟩
    · have e1 : ((i + 1 : Nat) : Int) = (i : Int) + 1 := by omega
      rw [e1]; exact he'
    · have hb' : b < s.heap.objs.size := by
        have e' : b = e ∨ b = it := by simpa using hb
        rcases e' with z | z
        · rw [z]; exact hel
        · rw [z]; exact hil
      rw [upd_ne (Nat.ne_of_lt hb')]
      exact (hf b hb).1
  done := by
    intro X hP hw hK hc i pins s σ H E I hf st hg
    subst hP hw hK
    obtain ⟨⟨old, he⟩, hit, hne⟩ := st
    obtain ⟨xs, hq, hx⟩ := hg
    obtain ⟨its, rv, p, hz⟩ := I.tuple hq
    have p : s.heap.IsTuple a its.toArray := p
    have hat : a ≠ it := tup_ne p hit
    obtain ⟨f0, f1, f2, f3, f4, f5⟩ := hf it (by simp)
    have hlen : its.toArray.size = i := by rw [List.size_toArray, ← rv.length, hx]
    refine wpAny_pyNext_enum_endD (Draws.tuple (prog := X.prog) (w := X.w) (A := X.A.in1) (I.ok.hd hc) it a hat its.toArray) he ?_ fun h' eb => ⟨rfl, I.turned (t' := s.toks) (fun b o hb q => eb b o hb q) f0 f1 f3 f4 f5⟩
    rw [hlen]
    exact ⟨hit, p⟩
  self := fun A i s Q E st h => let ⟨⟨_, he⟩, _⟩ := st; wpAny_pyIter_enum he h
def iEnumT (K : PySem.W.Frag) (ta : TA) : TI := fun σ H R => ta σ H fun vs H1 => ∃ a xs, vs = [.ref a] ∧ SqT K H1 a xs ∧ R (IteT K a) H1
theorem pi_enumT {X : Cx} {e : Expr} {ta : TA} {p pos tpos : Pos} {elts : List Expr} {kk : Nat} (hg : Gl X "enumerate") (hm : X.mg "enumerate" = none) (ha : PA X [e] ta) (hs : starEach [e] X.env = [(false, eval e X.env)] := by rfl) :
    PI X (.Tuple elts kk tpos) (.Call (.Name "enumerate" p) [e] [] pos) (iEnumT X.K ta) := by
  refine ⟨fun pins s σ H R I h => ?_⟩
  refine Call_ (ld_blt I hg hm boot_enumerate (PyProof.Rows.callWith_type1 (thn (ha.run pos pins s σ H _ I h) fun us s1 ⟨vs, H1, I1, r1, q1⟩ => ?_) hs rfl))
  obtain ⟨a, xs, ex, hq, q⟩ := q1
  subst ex
  cases r1 with
  | cons r rr =>
    cases rr
    cases r
    obtain ⟨its, rv, p', hz⟩ := I1.tuple hq
    have hlt : a < s1.heap.objs.size := by obtain ⟨_, e, _⟩ := p'; exact Heap.lt_size e
    refine call_enumerate_tuple p' fun h' he hit hsz hk => wpAny_pyIter_enum he ?_
    have I2 : Inv X pins σ H1 { s1 with heap := h' } := I1.kept (t' := s1.toks) hk
    refine ⟨s1.heap.objs.size + 1, [s1.heap.objs.size + 1, s1.heap.objs.size], _, _, H1, rfl, I2, turn_enumT a (s1.heap.objs.size + 1) s1.heap.objs.size (Nat.ne_of_lt (Nat.lt_succ_of_lt hlt)), ⟨⟨.none, he⟩, hit, Nat.succ_ne_self _⟩, fun b hb => ?_, q⟩
    have e' : b = s1.heap.objs.size + 1 ∨ b = s1.heap.objs.size := by simpa using hb
    have hle : s1.heap.objs.size ≤ b := by
      rcases e' with z | z
      · rw [z]; exact Nat.le_add_right _ _
      · rw [z]; exact Nat.le_refl _
    exact I1.fpOk hle (I1.hok.fresh hle)
theorem walk_enumT {K : PySem.W.Frag} {a : Addr} {xs : List V} : Walk (IteT K a) xs.length (fun H => SqT K H a xs) (YPair (fun i => some (.int (i : Nat))) (fun i => xs[i]?)) := by
  refine ⟨fun i H hi hG => ⟨xs, xs[i], hG, List.getElem?_eq_getElem hi⟩, fun H hG => ⟨xs, hG, rfl⟩, fun i H x H' hi hG y => ?_⟩
  obtain ⟨T, x, e1, e2, e3, e4⟩ := y
  exact ⟨T, _, x, e1, e2, e3, rfl, e4 xs hG⟩

/-! ### tuple.index of an int -/
theorem flat_ints (ns : List Int) : (ns.map V.int).all flatV = true := by
  rw [List.all_map]
  exact List.all_eq_true.mpr fun _ _ => rfl
theorem mt_tindex {X : Cx} : MtR X "tuple.index" (fun x xs H Q => ∃ p, ∃ ys : List Int, ∃ z j, x = .ref p ∧ xs = [.int z] ∧ SqT X.K H p (ys.map V.int) ∧ ys[j]? = some z ∧ (∀ m, m < j → ys[m]? ≠ some z) ∧ Q (.int (j : Nat)) H) := by
  intro pins s σ H x xs v us Q I rx rs h
  obtain ⟨p, ys, z, j, rfl, rfl, hq, hy, hno, q⟩ := h
  cases rx
  obtain ⟨u, rfl, t, rfl⟩ := vals1 rs
  obtain ⟨its, r, pl, hz⟩ := I.tuple hq
  obtain ⟨⟨cls, dd, dt, sl⟩, ho, hc, n, hd⟩ := pl
  simp only at hc hd
  subst hc
  subst hd
  have hl : its.toArray.size = ys.length := by rw [List.size_toArray, ← r.length, List.length_map]
  have hj : j < its.toArray.size := by rw [hl]; exact (List.getElem?_eq_some_iff.mp hy).1
  have at' : ∀ (m : Nat) (hm : m < its.toArray.size), ∃ y t', ys[m]? = some y ∧ its.toArray[m] = Value.int y t' := fun m hm => by
    have hm' : m < ys.length := by rw [← hl]; exact hm
    obtain ⟨w, hw, t', hw'⟩ := r.get (i := m) (x := .int ys[m]) (by simp [hm'])
    refine ⟨ys[m], t', List.getElem?_eq_getElem hm', ?_⟩
    have e := (List.getElem?_eq_some_iff.mp hw).2
    rw [← hw', ← e]
    simp
  refine call_meets PySem.F.slot_tuple_index ⟨_, ho, rfl⟩ PySem.F.entry_tuple_index (PySem.F.args_tuple_index_2 _ _) (TI.tuple_indexAt p its.toArray n dd sl (.int z t) (eqU (.int z)) j hj ?_ ?_)
    ⟨ho, fun w hw => mem_eqAt (x := .int z) ⟨t, rfl⟩ rfl r (flat_ints ys) w (by simpa using hw), ⟨.int (j : Nat), H, I.tok _, ⟨_, rfl⟩, q⟩⟩
  · obtain ⟨y, t', h1, h2⟩ := at' j hj
    rw [hy] at h1
    cases h1
    rw [h2]
    show (z == z) = true
    exact beq_self_eq_true z
  · intro m hm hmj
    obtain ⟨y, t', h1, h2⟩ := at' m hm
    rw [h2]
    show (y == z) = false
    exact beq_eq_false_iff_ne.mpr fun e => hno m hmj (e ▸ h1)

/-! ### rules by the written part K itself (for a comprehension's block) -/
def rLen (K : PySem.W.Frag) : List V → Hp → VK → Prop := fun xs H Q => ∃ p ys, xs = [.ref p] ∧ (SqL K H p ys ∨ SqT K H p ys) ∧ Q (.int ys.length) H
def rTupOf (K : PySem.W.Frag) : List V → Hp → VK → Prop := fun xs H Q => ∃ p ys, xs = [.ref p] ∧ ((SqL K H p ys ∧ ∀ l, H l = none → Q (.ref l) (upd H l (.tup ys))) ∨ (SqT K H p ys ∧ Q (.ref p) H))
def rListOf (K : PySem.W.Frag) : List V → Hp → VK → Prop := fun xs H Q => ∃ p ys, xs = [.ref p] ∧ (SqL K H p ys ∨ SqT K H p ys) ∧ ∀ l, H l = none → Q (.ref l) (upd H l (.lst ys))
section
variable {X : Cx} {K : PySem.W.Frag}
theorem k_len (hK : X.K = K) : CallR X (.builtin "len") (rLen K) := by subst hK; exact call_len_seq
theorem k_tupOf (hK : X.K = K) : CallR X (.type "tuple") (rTupOf K) := by subst hK; exact call_tuple_of
theorem k_listOf (hK : X.K = K) : CallR X (.type "list") (rListOf K) := by subst hK; exact call_list_of
theorem k_isi (hK : X.K = K) : CallR X (.builtin "isinstance") (rIsi K) := by subst hK; exact call_isi
theorem k_ixT (hK : X.K = K) : IxR X (rIxT K) := by subst hK; exact ix_tup
theorem k_ixL (hK : X.K = K) : IxR X (rIxL K) := by subst hK; exact ix_list
theorem k_slT (hK : X.K = K) : SlR X (rSlA K) := by subst hK; exact sl_tupA
theorem k_catT (hK : X.K = K) : OpR X (binaryOp .Add) (rCatA K) := by subst hK; exact op_catA
theorem k_sumT (hK : X.K = K) (hc : X.calm = true) : CallR X (.builtin "sum") (rSumT K) := by subst hK; exact cr_sumT hc
end

/-! ### a statement, then the rest, with a word between them -/
def tCut (t u : TS) : TS := fun D σ H => ∃ Mid : L2.St → Hp → Prop, t { D with nx := Mid } σ H ∧ ∀ σ' H', Mid σ' H' → u D σ' H'
theorem pss_cut {X : Cx} {st : Stmt} {rest : List Stmt} {t u : TS} (h1 : PS X st t) (h2 : PSs X rest u) : PSs X (st :: rest) (tCut t u) := by
  refine ⟨fun pins s σ H D I h => ?_⟩
  obtain ⟨Mid, hm, hu⟩ := h
  refine wpAny_execs_cons (thn (h1.run pins s σ H { D with nx := Mid } I hm) fun f s1 q => ?_)
  cases f with
  | next =>
    obtain ⟨σ', H', I', q⟩ := q
    exact h2.run pins s1 σ' H' D I' (hu σ' H' q)
  | ret v => exact q
  | brk => exact q
  | cont => exact q

/-! ### a tuple that is known to be plain; its method index -/
def rTupOfZ (K : PySem.W.Frag) : List V → Hp → VK → Prop := fun xs H Q => ∃ p ys, xs = [.ref p] ∧ SqL K H p ys ∧ ∀ l o, H l = none → o.dict = none → Q (.ref l) (upd H l (.frz o (.tup ys)))
theorem k_tupOfZ {X : Cx} {K : PySem.W.Frag} (hK : X.K = K) : CallR X (.type "tuple") (rTupOfZ K) := by
  subst hK
  intro pins s σ H xs us Q I r h
  obtain ⟨p, ys, rfl, hq, q⟩ := h
  obtain ⟨u, rfl, rx⟩ := vals1 r
  cases rx
  obtain ⟨its, r', pl, hz⟩ := I.list hq
  have hlen := r'.length
  refine call_tuple_list pl.isList (fun h' kp => ?_) (by simp only [List.size_toArray] <;> omega)
  have I1 : Inv X pins σ H { s with heap := h' } := I.kept (t' := s.toks) kp
  have I2 : Inv X pins σ (upd H h'.objs.size (.frz { cls := .type "tuple", data := .seq its.toArray } (.tup ys))) { s with heap := h'.push { cls := .type "tuple", data := .seq its.toArray } } :=
    I1.laid (t' := s.toks) (fun b o e => Heap.get?_push_of_some _ e) (Nat.le_refl _) (show ObjOk X.prog X.w _ _ _ (.frz _ (.tup ys)) from ⟨Heap.get?_push_size _ rfl, hz, its, r', IsTup.new _ _⟩)
  exact ⟨.ref h'.objs.size, _, I2, rfl, q _ _ (I1.hok.fresh (Nat.le_refl _)) rfl⟩
def tTM (r : V → List V → Hp → VK → Prop) (to : TE) (t : TA) : TE := fun σ H Q => to σ H fun x H1 => (∃ a ob xs, x = .ref a ∧ H1 a = some (.frz ob (.tup xs)) ∧ ob.dict = none) ∧ t σ H1 fun xs H2 => r x xs H2 Q
theorem pe_tm {X : Cx} {o e : Expr} {es : List Expr} {to : TE} {t : TA} {name : Str} {apos cpos : Pos} {id : String} {r : V → List V → Hp → VK → Prop} (slot : Slot "tuple" name id) (hty : typeOf (.builtin id) = pure (.type "method_descriptor")) (hm : MtR X id r) (ho : PE X o to) (ha : PA X (e :: es) t)
    (hbase : attributeBase o name X.env (eval o X.env) = eval o X.env := by rfl)
    (hfew : ((backTo cpos (starEach (e :: es) X.env)).all (fun x => !x.1) && (backToKw cpos (keywordEach [] X.env)).all (fun x => x.1.isSome)
      && decide ((e :: es).length + ([] : List Keyword).length + (if ([] : List Keyword).isEmpty then 0 else 1) < 30)) = true := by rfl)
    (hline : (apos.endLine == cpos.line) = true := by rfl) (hs : starEach (e :: es) X.env = (false, eval e X.env) :: starEach es X.env := by rfl) (hplain : (backTo cpos (starEach es X.env)).any (·.1) = false := by rfl) :
    PE X (.Call (.Attribute o name apos) (e :: es) [] cpos) (tTM r to t) := by
  refine ⟨fun pins s σ H Q I h => ?_⟩
  refine wpAny_Call_method_late hbase hfew hline rfl (thn (ho.run pins s σ H _ I h) fun v s1 ⟨x, H1, I1, r1, ty, q1⟩ => ?_)
  obtain ⟨a, ob, xs, rfl, hf, hd⟩ := ty
  cases r1
  obtain ⟨hg, hz, its, rv, o', ho', hc, _⟩ := (show ObjOk X.prog X.w H1 s1.heap a (.frz ob (.tup xs)) from I1.hok a _ hf)
  have hc' : ob.cls = .type "tuple" := by rw [hg] at ho'; cases ho'; exact hc
  refine ⟨"tuple", id, PySem.F.plainAttrs_tuple, slot, hty, ⟨ob, hg, hc'⟩, fun b e => by cases e; exact ⟨ob, hg, hd⟩, ?_⟩
  have hA := ha.run cpos pins s1 σ H1 _ I1 q1
  rw [hs] at hA ⊢
  refine Calls.callWith_builtin (by show (false || (backTo cpos (starEach es X.env)).any (·.1)) = false; rw [hplain] <;> rfl) (Calls.evalArgs_plain ?_)
  exact thn hA fun us s2 ⟨vs, H2, I2, r2, q2⟩ => hm pins s2 σ H2 (.ref a) vs (.ref a) us Q I2 rfl r2 q2

/-! ### places in the text -/
def xAsg : Stmt → Expr
  | .Assign _ e _ => e
  | _ => .Constant .none 0 ⟨0, 0, 0, 0⟩
def xArg (i : Nat) : Expr → Expr
  | .Call _ as _ _ => as.getD i (.Constant .none 0 ⟨0, 0, 0, 0⟩)
  | _ => .Constant .none 0 ⟨0, 0, 0, 0⟩
def xLcSc : Expr → Scope
  | .ListComp _ _ sc _ => sc
  | _ => { kind := .function, names := [], isGenerator := false, isCoroutine := false }
/-! ### readings are monotone -/
theorem mono_pair {K : PySem.W.Frag} {n i j : Nat} (x : V) (σ' : L2.St) (H' : Hp) (Q Q' : L2.St → Hp → Prop) (h : ∀ a b, Q a b → Q' a b) (e : gTup K n (gCons (gName i) (gCons (gName j) gNil)) x σ' H' Q) : gTup K n (gCons (gName i) (gCons (gName j) gNil)) x σ' H' Q' := by
  obtain ⟨a, xs, e1, e2, e3, v, r, e4, v', r', e5, e6, q⟩ := e
  exact ⟨a, xs, e1, e2, e3, v, r, e4, v', r', e5, e6, h _ _ q⟩

section
variable {X : Cx} {K : PySem.W.Frag}
theorem k_piL {tg l : Expr} {tl : TE} (hK : X.K = K) (hl : PE X l tl) : PI X tg l (iList K tl) := by subst hK; exact pi_list hl
theorem k_piT {tg l : Expr} {tl : TE} (hK : X.K = K) (hl : PE X l tl) : PI X tg l (iTup K tl) := by subst hK; exact pi_tup hl
theorem k_pgT2 {x y : Str} {px py : Pos} {k : Nat} {pos : Pos} {t1 t2 : TG} (hK : X.K = K) (hc : X.calm = true) (h1 : PG X (.Name x px) t1) (h2 : PG X (.Name y py) t2) : PG X (.Tuple [.Name x px, .Name y py] k pos) (gTup K 2 (gCons t1 (gCons t2 gNil))) := by
  subst hK
  exact pg_tup hc (pgs_cons h1 (pgs_cons h2 pgs_nil))
end
end MB

set_option maxHeartbeats 4000000
namespace MB
open PySem PySem.Spec PyProof.Rows L2

/-! ### heaps -/
theorem same_upd {H : Hp} {p : Addr} {o : HO} (h : H p = none) : Same H (upd H p o) := fun b x e => by
  rw [upd_ne (ne_of_none e h)]
  exact e
/-- an object that was not tracked may change -/
theorem Same.mut {H H' : Hp} {p : Addr} {o : HO} (s : Same H H') (h : H p = none) : Same H (upd H' p o) := fun b x e => by
  rw [upd_ne (ne_of_none e h)]
  exact s _ _ e
theorem Same.tup {K : PySem.W.Frag} {H H' : Hp} {a : Addr} {xs : List V} (e : Same H H') (h : SqT K H a xs) : SqT K H' a xs := by
  rcases h with (h | ⟨o, h⟩) | h
  · exact .inl (.inl (e _ _ h))
  · exact .inl (.inr ⟨o, e _ _ h⟩)
  · exact .inr h
theorem Same.tupF {K : PySem.W.Frag} {H H' : Hp} {a : Addr} {o : Obj} {xs : List V} (e : Same H H') (h : H a = some (.frz o (.tup xs))) : SqT K H' a xs := .inl (.inr ⟨o, e _ _ h⟩)
theorem Dp.same {K : PySem.W.Frag} {H H' : Hp} (e : Same H H') : ∀ {v : V} {d : PyData}, Dp K H v d → Dp K H' v d := by
  intro v d h
  refine Dp.rec (motive_1 := fun v d _ => Dp K H' v d) (motive_2 := fun vs ds _ => DpAll K H' vs ds) ?_ ?_ ?_ ?_ ?_ ?_ ?_ ?_ h
  · exact .non
  · intro b; exact .bl b
  · intro i; exact .int i
  · intro x; exact .str x
  · intro a xs ds hs _ ih; exact .lst (e.seq hs) ih
  · intro a xs ds hs _ ih; exact .tup (Same.tup e hs) ih
  · exact .nil
  · intro v vs d ds _ _ h1 h2; exact .cons h1 h2
theorem DpAll.get {K : PySem.W.Frag} {H : Hp} : ∀ {vs : List V} {ds : List PyData}, DpAll K H vs ds → ∀ {i : Nat} {d : PyData}, ds[i]? = some d → ∃ v, vs[i]? = some v ∧ Dp K H v d
  | _, _, .nil, i, d, h => by simp at h
  | _, _, .cons a b, 0, d, h => by
    simp at h; subst h
    exact ⟨_, rfl, a⟩
  | _, _, .cons a b, i + 1, d, h => by
    obtain ⟨v, h1, h2⟩ := DpAll.get b (i := i) (d := d) (by simpa using h)
    exact ⟨v, by simpa using h1, h2⟩
theorem DpAll.len {K : PySem.W.Frag} {H : Hp} : ∀ {vs : List V} {ds : List PyData}, DpAll K H vs ds → vs.length = ds.length
  | _, _, .nil => rfl
  | _, _, .cons a b => by simp [DpAll.len b]
theorem DpAll.take {K : PySem.W.Frag} {H : Hp} : ∀ {vs : List V} {ds : List PyData} (n : Nat), DpAll K H vs ds → DpAll K H (vs.take n) (ds.take n)
  | _, _, 0, _ => .nil
  | _, _, _ + 1, .nil => .nil
  | _, _, n + 1, .cons a b => .cons a (DpAll.take n b)
theorem DpAll.append {K : PySem.W.Frag} {H : Hp} : ∀ {vs ws : List V} {ds es : List PyData}, DpAll K H vs ds → DpAll K H ws es → DpAll K H (vs ++ ws) (ds ++ es)
  | _, _, _, _, .nil, s => s
  | _, _, _, _, .cons a b, s => .cons a (DpAll.append b s)
theorem DpAll.same {K : PySem.W.Frag} {H H' : Hp} (e : Same H H') : ∀ {vs : List V} {ds : List PyData}, DpAll K H vs ds → DpAll K H' vs ds
  | _, _, .nil => .nil
  | _, _, .cons a b => .cons (Dp.same e a) (DpAll.same e b)
theorem dp_ints {K : PySem.W.Frag} {H : Hp} : ∀ ns : List Int, DpAll K H (ns.map V.int) (ns.map PyData.int)
  | [] => .nil
  | n :: ns => .cons (.int n) (dp_ints ns)
theorem ty_tup {K : PySem.W.Frag} {H : Hp} {a : Addr} {xs : List V} (h : SqT K H a xs) : TyX K H (.ref a) (.type "tuple") := by
  rcases h with (h | ⟨o, h⟩) | ⟨o, its, n, h, hc, _⟩
  · exact .base (.tup h)
  · exact .fTuple h
  · exact .kTuple h hc

/-! ### lists of numbers -/
def vi (p : List Nat) : List V := p.map fun (m : Nat) => V.int (m : Int)
def ci (p : List Nat) : List Int := p.map fun (m : Nat) => (m : Int)
theorem vi_ci (p : List Nat) : vi p = (ci p).map V.int := by simp [vi, ci]
theorem vi_len (p : List Nat) : (vi p).length = p.length := by simp [vi]
theorem vi_get {p : List Nat} {i m : Nat} (h : p[i]? = some m) : (vi p)[i]? = some (.int (m : Int)) := by simp [vi, h]
theorem vi_app (p q : List Nat) : vi (p ++ q) = vi p ++ vi q := by simp [vi]
theorem at_vi {p : List Nat} {i m : Nat} (h : p[i]? = some m) : atI (vi p) (i : Int) = some (.int (m : Int)) := atI_nat (vi_get h)
theorem sz60 {n : Nat} (h : n ≤ 100000) : n ≤ sizeLine := Nat.le_trans h (by decide)
theorem sz61 {n : Nat} (h : n ≤ 100000) : n < sizeLine := Nat.lt_of_le_of_lt h (by decide)
theorem decT {c : Prop} [Decidable c] (h : c) {A B : Prop} (a : A) : if decide c = true then A else B := by
  rw [if_pos (decide_eq_true h)]; exact a
theorem decF {c : Prop} [Decidable c] (h : ¬ c) {A B : Prop} (b : B) : if decide c = true then A else B := by
  rw [if_neg (by simp [h])]; exact b

/-! ### data of tuples: no list within -/
inductive Tf : PyData → Prop
  | non : Tf .none
  | bl (b : Bool) : Tf (.bool b)
  | int (i : Int) : Tf (.int i)
  | str (x : Str) : Tf (.str x)
  | tup {ds : List PyData} : (∀ d, d ∈ ds → Tf d) → Tf (.tuple ds)
theorem Tf.items {ds : List PyData} (h : Tf (.tuple ds)) : ∀ d, d ∈ ds → Tf d := by
  cases h with
  | tup h => exact h
theorem tf_ints (ns : List Int) : ∀ d, d ∈ ns.map PyData.int → Tf d := fun d h => by
  obtain ⟨i, _, rfl⟩ := List.mem_map.mp h
  exact .int i
/-- all tuples stay -/
def Keep (K : PySem.W.Frag) (H H' : Hp) : Prop := ∀ a xs, SqT K H a xs → SqT K H' a xs
theorem Keep.of {K : PySem.W.Frag} {H H' : Hp} (s : Same H H') : Keep K H H' := fun _ _ h => Same.tup s h
theorem Keep.trans {K : PySem.W.Frag} {H H1 H2 : Hp} (a : Keep K H H1) (b : Keep K H1 H2) : Keep K H H2 := fun _ _ h => b _ _ (a _ _ h)
theorem Keep.refl {K : PySem.W.Frag} {H : Hp} : Keep K H H := fun _ _ h => h
/-- all but the list at l stay -/
def But (l : Addr) (H H' : Hp) : Prop := ∀ b o, b ≠ l → H b = some o → H' b = some o
theorem But.refl {l : Addr} {H : Hp} : But l H H := fun _ _ _ h => h
theorem But.trans {l : Addr} {H H1 H2 : Hp} (a : But l H H1) (b : But l H1 H2) : But l H H2 := fun c o n h => b c o n (a c o n h)
theorem But.of {l : Addr} {H H' : Hp} (s : Same H H') : But l H H' := fun c o _ h => s c o h
theorem But.upd {l : Addr} {H : Hp} {o : HO} : But l H (L2.upd H l o) := fun c u n h => by rw [upd_ne n]; exact h
theorem But.keep {K : PySem.W.Frag} {l : Addr} {H H' : Hp} {ys : List V} (s : But l H H') (hl : H l = some (.lst ys)) : Keep K H H' := fun a xs h => by
  rcases h with (h | ⟨o, h⟩) | h
  · exact .inl (.inl (s _ _ (fun e => by rw [e, hl] at h; cases h) h))
  · exact .inl (.inr ⟨o, s _ _ (fun e => by rw [e, hl] at h; cases h) h⟩)
  · exact .inr h
theorem But.same {l : Addr} {H0 H H' : Hp} (s : Same H0 H) (b : But l H H') (n : H0 l = none) : Same H0 H' := fun c o e => b c o (ne_of_none e n) (s c o e)
theorem Dp.keep {K : PySem.W.Frag} {H H' : Hp} (e : Keep K H H') : ∀ {v : V} {d : PyData}, Tf d → Dp K H v d → Dp K H' v d := by
  intro v d t h
  refine Dp.rec (motive_1 := fun v d _ => Tf d → Dp K H' v d) (motive_2 := fun vs ds _ => (∀ d, d ∈ ds → Tf d) → DpAll K H' vs ds) ?_ ?_ ?_ ?_ ?_ ?_ ?_ ?_ h t
  · intro _; exact .non
  · intro b _; exact .bl b
  · intro i _; exact .int i
  · intro x _; exact .str x
  · intro a xs ds hs _ ih t; cases t
  · intro a xs ds hs _ ih t; exact .tup (e _ _ hs) (ih t.items)
  · intro _; exact .nil
  · intro v vs d ds _ _ h1 h2 t; exact .cons (h1 (t _ (List.mem_cons_self ..))) (h2 fun d hd => t d (List.mem_cons_of_mem _ hd))
theorem DpAll.keep {K : PySem.W.Frag} {H H' : Hp} (e : Keep K H H') : ∀ {vs : List V} {ds : List PyData}, (∀ d, d ∈ ds → Tf d) → DpAll K H vs ds → DpAll K H' vs ds
  | _, _, _, .nil => .nil
  | _, _, t, .cons a b => .cons (Dp.keep e (t _ (List.mem_cons_self ..)) a) (DpAll.keep e (fun d hd => t d (List.mem_cons_of_mem _ hd)) b)
theorem dp_ints_inv {K : PySem.W.Frag} {H : Hp} : ∀ {ns : List Int} {vs : List V}, DpAll K H vs (ns.map PyData.int) → vs = ns.map V.int
  | [], _, .nil => rfl
  | n :: ns, _, .cons a b => by
    cases a
    rw [dp_ints_inv b]
    rfl
theorem Dp.tupInv {K : PySem.W.Frag} {H : Hp} {v : V} {ds : List PyData} (h : Dp K H v (.tuple ds)) : ∃ a xs, v = .ref a ∧ SqT K H a xs ∧ DpAll K H xs ds := by
  cases h with
  | tup h1 h2 => exact ⟨_, _, rfl, h1, h2⟩
theorem Dp.intsInv {K : PySem.W.Frag} {H : Hp} {v : V} {ns : List Int} (h : Dp K H v (.tuple (ns.map PyData.int))) : ∃ a, v = .ref a ∧ SqT K H a (ns.map V.int) := by
  obtain ⟨a, xs, e, h1, h2⟩ := Dp.tupInv h
  rw [dp_ints_inv h2] at h1
  exact ⟨a, e, h1⟩

/-! ### a comprehension that gives an item at each turn -/
theorem lc_all {K : PySem.W.Frag} {J : It} {n : Nat} {G : Hp → Prop} {Y : Nat → Hp → V → Hp → Prop} (w : Walk J n G Y) {g : TG} {tt : TT} {te : TE} {vs : List Nat} {σ : L2.St} {H1 : Hp} {D : Addr} {Qd : Hp → Prop}
    (ds : List PyData) (hl : ds.length = n) (ht : ∀ d, d ∈ ds → Tf d) (hn : n ≤ 1000) (hD : H1 D = none) (hG : ∀ H, Same H1 H → G H)
    (hs : ∀ i x H H', i < n → Same H1 H → Y i H x H' → ∀ d, ds[i]? = some d → ∀ R : V → Hp → Prop, (∀ y H4, Same H H4 → Dp K H4 y d → R y H4) →
      g x (wipe σ vs) H' fun σ2 H2 => wipe σ2 vs = wipe σ vs ∧ tt σ2 H2 fun b H3 => b = true ∧ te σ2 H3 R)
    (hd : ∀ H acc, Same H1 H → H D = some (.lst acc) → DpAll K H acc ds → Qd H)
    (mg : ∀ x σ' H' (Q Q' : L2.St → Hp → Prop), (∀ a b, Q a b → Q' a b) → g x σ' H' Q → g x σ' H' Q') (mt : ∀ σ' H' (Q Q' : Bool → Hp → Prop), (∀ a b, Q a b → Q' a b) → tt σ' H' Q → tt σ' H' Q') :
    ∃ W : Nat → Nat → Hp → Prop, (∃ m, W 0 m (upd H1 D (.lst []))) ∧ ∀ i m H, W i m H →
      (J.stop i H ∧ Qd H) ∨ (J.go i H ∧ ∃ Nx : Hp → Prop, (∀ H', Nx H' → ∃ m', m' < m ∧ W (i + 1) m' H') ∧ ∀ x H', J.yld i H x H' → g x (wipe σ vs) H' fun σ2 H2 => wipe σ2 vs = wipe σ vs ∧ tt σ2 H2 fun b H3 =>
        if b = true then te σ2 H3 fun y H4 => ∃ acc, H4 D = some (.lst acc) ∧ acc.length < sizeLine ∧ Nx (upd H4 D (.lst (acc ++ [y]))) else Nx H3) := by
  refine lc_it w (fun i H => Same H1 H ∧ ∃ acc, H D = some (.lst acc) ∧ DpAll K H acc (ds.take i)) ⟨same_upd hD, [], upd_same, .nil⟩ (fun i H _ h => hG H h.1) ?_ ?_
  · rintro i x H H' hi ⟨s1, acc, ha, hA⟩ hy
    have hd' : ds[i]? = some ds[i] := List.getElem?_eq_getElem (by omega)
    have hlen := DpAll.len hA
    rw [List.length_take] at hlen
    refine mg _ _ _ _ _ ?_ (hs i x H H' hi s1 hy ds[i] hd' (fun y H4 => ∃ acc, H4 D = some (.lst acc) ∧ acc.length < sizeLine ∧ (Same H1 (upd H4 D (.lst (acc ++ [y]))) ∧ ∃ acc', (upd H4 D (.lst (acc ++ [y]))) D = some (.lst acc') ∧ DpAll K (upd H4 D (.lst (acc ++ [y]))) acc' (ds.take (i + 1)))) ?_)
    · rintro σ2 H2 ⟨h1, h2⟩
      refine ⟨h1, mt _ _ _ _ ?_ h2⟩
      rintro b H3 ⟨rfl, h3⟩
      exact iteT h3
    · intro y H4 s4 hy4
      refine ⟨acc, s4 _ _ ha, sz61 (by omega), Same.mut (s1.trans s4) hD, acc ++ [y], upd_same, ?_⟩
      have kp : Keep K H4 (upd H4 D (.lst (acc ++ [y]))) := But.keep But.upd (s4 _ _ ha)
      rw [List.take_add_one, hd']
      refine DpAll.keep kp (fun d h => ?_) (DpAll.append (DpAll.same s4 hA) (.cons hy4 .nil))
      rcases List.mem_append.mp h with h | h
      · exact ht d (List.mem_of_mem_take h)
      · have e : d = ds[i] := by simpa using h
        rw [e]; exact ht _ (List.getElem_mem ..)
  · rintro H ⟨s1, acc, ha, hA⟩
    rw [List.take_of_length_le (by omega)] at hA
    exact hd H acc s1 ha hA

/-! ### tuples cut and joined -/
theorem cut_to {xs : List V} {k : Nat} (h : k ≤ xs.length) : cutV xs none (some (k : Int)) = xs.take k := by
  unfold cutV
  rw [HT.sIx_none, HT.sIx_nat, Nat.min_eq_left h]
  simp
theorem cut_from {xs : List V} {k : Nat} (h : k ≤ xs.length) : cutV xs (some (k : Int)) none = xs.drop k := by
  unfold cutV
  rw [HT.sIx_none, HT.sIx_nat, Nat.min_eq_left h]
  rw [List.take_of_length_le (by rw [List.length_drop]; omega)]
theorem sl_read {K : PySem.W.Frag} {H : Hp} {a : Addr} {xs : List V} {lo hi : Option Int} {Q : VK} (h : SqT K H a xs) (q : ∀ p H', Same H H' → SqT K H' p (cutV xs lo hi) → Q (.ref p) H') : rSlA K (.ref a) lo hi H Q := by
  refine ⟨a, xs, rfl, h, fun e => q a H (Same.refl H) ?_, fun _ p hp => q p _ (same_upd hp) (.inl (.inl upd_same))⟩
  unfold cutV
  rw [e.1, e.2]
  simpa using h
theorem cat_read {K : PySem.W.Frag} {H : Hp} {a b : Addr} {xs ys : List V} {Q : VK} (ha : SqT K H a xs) (hb : SqT K H b ys) (hz : xs.length + ys.length ≤ 100000) (q : ∀ p H', Same H H' → SqT K H' p (xs ++ ys) → Q (.ref p) H') : rCatA K (.ref a) (.ref b) H Q := by
  refine ⟨a, b, xs, ys, rfl, rfl, ha, hb, sz60 hz, fun e => q b H (Same.refl H) ?_, fun _ e => q a H (Same.refl H) ?_, fun _ _ p hp => q p _ (same_upd hp) (.inl (.inl upd_same))⟩
  · rw [e]; exact hb
  · rw [e, List.append_nil]; exact ha
theorem DpAll.snoc {K : PySem.W.Frag} {H : Hp} : ∀ {vs : List V} {ds : List PyData} {d : PyData}, DpAll K H vs (ds ++ [d]) → ∃ us v, vs = us ++ [v] ∧ DpAll K H us ds ∧ Dp K H v d
  | _, [], _, .cons a .nil => ⟨[], _, rfl, .nil, a⟩
  | _, _ :: ds, _, .cons a b => by
    obtain ⟨us, v, e, h1, h2⟩ := DpAll.snoc b
    exact ⟨_ :: us, v, by rw [e]; rfl, .cons a h1, h2⟩
theorem ixN_of {n j : Nat} (hj : j < n) : ixN n (j : Int) = some j := by
  unfold ixN
  rw [if_pos (by omega), if_pos (by omega)]
  simp
theorem vi_set (c : List Nat) (k v : Nat) : (vi c).set k (.int (v : Int)) = vi (c.set k v) := by
  unfold vi
  rw [List.map_set]
theorem vi_rep (n v : Nat) : vi (List.replicate n v) = List.replicate n (.int (v : Int)) := by simp [vi]

/-! ### [x for x in range(lo, hi) if ..] -/
theorem lc_fil {lo : Int} {n j : Nat} {vs : List Nat} {σ : L2.St} {H1 : Hp} {D : Addr} {Qd : Hp → Prop} {tt : TT} (f : Nat → Bool) (hn : n ≤ 1000) (hD : H1 D = none)
    (hw : ∀ x, wipe ((wipe σ vs).set j (some x)) vs = wipe σ vs) (hj : ∀ x : V, ((wipe σ vs).set j (some x))[j]? = some (some x))
    (ht : ∀ (i : Nat) H (Q : Bool → Hp → Prop), i < n → Same H1 H → Q (f i) H → tt ((wipe σ vs).set j (some (.int (lo + (i : Nat))))) H Q)
    (hd : ∀ H, Same H1 H → H D = some (.lst (((List.range n).filter f).map fun (i : Nat) => V.int (lo + (i : Nat)))) → Qd H) :
    ∃ W : Nat → Nat → Hp → Prop, (∃ m, W 0 m (upd H1 D (.lst []))) ∧ ∀ i m H, W i m H →
      ((Itr lo n).stop i H ∧ Qd H) ∨ ((Itr lo n).go i H ∧ ∃ Nx : Hp → Prop, (∀ H', Nx H' → ∃ m', m' < m ∧ W (i + 1) m' H') ∧ ∀ x H', (Itr lo n).yld i H x H' → gName j x (wipe σ vs) H' fun σ2 H2 => wipe σ2 vs = wipe σ vs ∧ tt σ2 H2 fun b H3 =>
        if b = true then tVar j σ2 H3 fun y H4 => ∃ acc, H4 D = some (.lst acc) ∧ acc.length < sizeLine ∧ Nx (upd H4 D (.lst (acc ++ [y]))) else Nx H3) := by
  refine lc_range (lo := lo) (n := n) (fun i H => Same H1 H ∧ H D = some (.lst (((List.range i).filter f).map fun (i : Nat) => V.int (lo + (i : Nat))))) ⟨same_upd hD, upd_same⟩ ?_ ?_
  · rintro i H hi ⟨s1, h1⟩
    refine ⟨hw _, ht i H _ hi s1 ?_⟩
    have hlen : (((List.range i).filter f).map fun (i : Nat) => V.int (lo + (i : Nat))).length ≤ i := by
      rw [List.length_map]
      have := List.length_filter_le f (List.range i)
      rw [List.length_range] at this
      exact this
    by_cases hf : f i = true
    · rw [hf]
      refine iteT ⟨_, hj _, _, h1, sz61 (by omega), Same.mut s1 hD, ?_⟩
      rw [List.range_succ, List.filter_append, List.map_append]
      simp only [List.filter_cons, hf, if_true, List.filter_nil, List.map_cons, List.map_nil]
      exact upd_same
    · have hf' : f i = false := by simpa using hf
      rw [hf']
      refine iteF ⟨s1, ?_⟩
      rw [List.range_succ, List.filter_append, List.map_append]
      simpa [hf'] using h1
  · rintro H ⟨s1, h1⟩
    exact hd H s1 h1
theorem iteB1 {b : Bool} {A B : Prop} (h : b = true) (a : A) : if b = true then A else B := by rw [if_pos h]; exact a
theorem iteB0 {b : Bool} {A B : Prop} (h : b = false) (a : B) : if b = true then A else B := by rw [if_neg (by rw [h]; decide)]; exact a

/-! ### deep comparisons -/
theorem lay_all : ∀ {ds : List PyData}, (∀ d, d ∈ ds → d.canLay0 = true) → PyData.canLayAll0 ds = true
  | [], _ => by simp [PyData.canLayAll0]
  | d :: ds, h => by
    simp only [PyData.canLayAll0]
    rw [h d (List.mem_cons_self ..), lay_all fun e he => h e (List.mem_cons_of_mem _ he)]; rfl
theorem dep_all {k : Nat} : ∀ {ds : List PyData}, (∀ d, d ∈ ds → d.depth ≤ k) → PyData.depthAll ds ≤ k
  | [], _ => by simp [PyData.depthAll]
  | d :: ds, h => by
    simp only [PyData.depthAll]
    have h1 := h d (List.mem_cons_self ..)
    have h2 := dep_all (k := k) fun e he => h e (List.mem_cons_of_mem _ he)
    omega
/-- plain data of at most so many levels -/
def Sh (k : Nat) (d : PyData) : Prop := d.canLay0 = true ∧ d.depth ≤ k
theorem Sh.shaped {k : Nat} {d : PyData} (h : Sh k d) (hk : k ≤ 64) : SeqAt.shaped d = true := by
  unfold SeqAt.shaped
  rw [h.1, decide_eq_true (by have := h.2; omega)]; rfl
theorem Sh.tup {k : Nat} {ds : List PyData} (h : ∀ d, d ∈ ds → Sh k d) : Sh (k + 1) (.tuple ds) :=
  ⟨by simp only [PyData.canLay0]; exact lay_all fun d hd => (h d hd).1, by simp only [PyData.depth]; have := dep_all (k := k) (ds := ds) fun d hd => (h d hd).2; omega⟩
theorem Sh.lst {k : Nat} {ds : List PyData} (h : ∀ d, d ∈ ds → Sh k d) : Sh (k + 1) (.list ds) :=
  ⟨by simp only [PyData.canLay0]; exact lay_all fun d hd => (h d hd).1, by simp only [PyData.depth]; have := dep_all (k := k) (ds := ds) fun d hd => (h d hd).2; omega⟩
theorem Sh.int (i : Int) {k : Nat} : Sh k (.int i) := ⟨by simp [PyData.canLay0], by simp [PyData.depth]⟩
theorem Sh.ints {k : Nat} (ns : List Int) : ∀ d, d ∈ ns.map PyData.int → Sh k d := fun d h => by
  obtain ⟨i, _, rfl⟩ := List.mem_map.mp h
  exact .int i
theorem eq_data {K : PySem.W.Frag} {H : Hp} {x y : V} {d : PyData} {Q : VK} {k : Nat} (hx : Dp K H x d) (hy : Dp K H y d) (hs : Sh k d) (hk : k ≤ 64) (q : Q (.bl true) H) : rEqD K x y H Q :=
  ⟨d, d, hx, hy, hs.shaped hk, hs.shaped hk, by rw [SeqAt.eqv_refl d hs.1]; exact q⟩
theorem ne_data {K : PySem.W.Frag} {H : Hp} {x y : V} {d : PyData} {Q : VK} {k : Nat} (hx : Dp K H x d) (hy : Dp K H y d) (hs : Sh k d) (hk : k ≤ 64) (q : Q (.bl false) H) : rNeD K x y H Q :=
  ⟨d, d, hx, hy, hs.shaped hk, hs.shaped hk, by rw [SeqAt.eqv_refl d hs.1]; exact q⟩
theorem dp_tup {K : PySem.W.Frag} {H : Hp} {a : Addr} {ns : List Int} (h : SqT K H a (ns.map V.int)) : Dp K H (.ref a) (.tuple (ns.map PyData.int)) := .tup h (dp_ints ns)
theorem ne_ints {K : PySem.W.Frag} {H : Hp} {a b : Addr} {ns : List Int} {Q : VK} (ha : SqT K H a (ns.map V.int)) (hb : SqT K H b (ns.map V.int)) (q : Q (.bl false) H) : rNeD K (.ref a) (.ref b) H Q :=
  ne_data (dp_tup ha) (dp_tup hb) (Sh.tup (k := 0) (Sh.ints ns)) (by decide) q
end MB

set_option maxHeartbeats 4000000
namespace MB
open PySem PySem.Spec PyProof.Rows L2

/-! ### a def called where no repr is under way -/
structure FnG (P : Program) (w : World) (K : PySem.W.Frag) (mg : Str → Option Value) (base : Heap) (CX : CXT) (k : Nat) (f : Addr) (fd : FuncData) (ps : List Str) (sp : Sp) : Prop where
  len : ∀ vs H Q E, sp vs H Q E → vs.length = ps.length
  run : ∀ (A : Around), A.guards = some [] → Room k A → ∀ (outer : List Env) (s : Shared) (H : Hp) (args : Args) (us : List Value) (vs : List V) (Q : VK) (E : XK),
    Env0 P w K mg base A outer s H → BindsTo s fd args (ps.zip us) → Vals vs us → sp vs H Q E → codeAny (model P w) A (.call (.ref f) args) (CR CX outer P w H s Q E) s
section
variable {P : Program} {w : World} {K : PySem.W.Frag} {mg : Str → Option Value} {base : Heap} {CX : CXT} {k : Nat} {f : Addr} {fd : FuncData} {ps : List Str} {sp : Sp}
theorem FnG.of (F : FnOk P w K mg base CX k f fd ps sp) : FnG P w K mg base CX k f fd ps sp :=
  ⟨F.len, fun A _ hr outer s H args us vs Q E => F.run A outer s H args us vs Q E hr⟩
theorem deeper_guards {A : Around} {env : Env} (h : A.guards = some []) : (A.deeper env).guards = some [] := h
theorem fnG_of {name qual : Str} {params : Arguments} {body : List Stmt} {scope : Scope} {dV kV doc pm cdv ct oc : Value} {an od : Option Addr} {osl : Array (Option Value)} {N : List Str}
    (lk : K.lookup f = some ⟨oc, od, .func (PySem.W.fnOf name qual params body scope dV kV doc pm an cdv ct), osl⟩) (hcd : PySem.W.codeIn K cdv qual = true) (S : FnScope N ps scope)
    (len : ∀ vs H Q E, sp vs H Q E → vs.length = ps.length)
    (hbody : ∀ (A : Around), A.guards = some [] → ∀ (outer : List Env) (s : Shared) (H : Hp) (vs : List V) (Q : VK) (E : XK), Room k (A.deeper (envOfC qual scope s.heap.objs.size f cdv)) → sp vs H Q E →
      ∃ t, PSs (cxOf CX P w K mg base N qual scope f cdv A outer s H E) body t ∧ t { nx := fun _ H' => Q .non H', rt := Q } (start N vs) H) :
    FnG P w K mg base CX (k + 1) f (PySem.W.fnOf name qual params body scope dV kV doc pm an cdv ct) ps sp := by
  refine ⟨len, fun A hgd hr outer s H args us vs Q E e0 hb r hsp => ?_⟩
  have kept : ∀ b o, base.get? b = some o → s.heap.get? b = some o := fun b o e => (e0.bs b o e).1
  have KX : K.In s.heap := e0.mod.kin.keeps kept
  obtain ⟨t, ht, hq⟩ := hbody A hgd outer s H vs Q E (hr.deeper _) hsp
  have par : ∀ y ∈ ps.zip us, scope.names.lookup y.1 = some .local ∨ (scope.names.lookup y.1 = some .cell ∧ ((cellsFrom (s.heap.objs.size + 1) scope.names []).lookup y.1).isSome = true) := by
    rintro ⟨n, v⟩ hy
    exact (S.par n (List.of_mem_zip hy).1).imp id fun z => ⟨z, PySem.W.cellsFrom_some _ _ _ (.inl z)⟩
  refine codeAny_call_function hr.depth (KX _ _ lk) rfl S.co S.gen rfl (PySem.W.codeRec_of KX hcd) (hb _ _ _ _ (wpAny_newFunctionEnv_cells S.kind par fun env he s1 x => ?_))
  subst he
  refine ⟨(e0.mod.nolimit.keeps kept).keeps x.toInCall.keep, codeAny_func (wpAny_mono (ht.run [] s1 (start N vs) H _ (inv_start S hr.hd e0 (len _ _ _ _ hsp) r x) hq) (fun fl s' hs => ?_) fun e s' hs => hs)⟩
  rcases fl with _ | _ | _ | u
  · obtain ⟨σ', H', J, q⟩ := hs
    exact ⟨V.non, H', J.os, J.bare, J.base, J.hok, rfl, q⟩
  · exact (let ⟨_, _, _, q⟩ := hs; False.elim q)
  · exact (let ⟨_, _, _, q⟩ := hs; False.elim q)
  · obtain ⟨v, σ', H', J, rv, q⟩ := hs
    exact ⟨v, H', J.os, J.bare, J.base, J.hok, rv, q⟩
theorem Fun.okG {x qual : Str} {st : Stmt} {N : List Str} (F : L2.Fun K x qual st f fd) (S : FnScope N ps (defScope st)) (len : ∀ vs H Q E, sp vs H Q E → vs.length = ps.length)
    (hbody : ∀ (cdv : Value) (A : Around), A.guards = some [] → ∀ (outer : List Env) (s : Shared) (H : Hp) (vs : List V) (Q : VK) (E : XK), Room k (A.deeper (envOfC qual (defScope st) s.heap.objs.size f cdv)) → sp vs H Q E →
      ∃ t, PSs (cxOf CX0 P w K mg base N qual (defScope st) f cdv A outer s H E).nox (defBody st) t ∧ t { nx := fun _ H' => Q .non H', rt := Q } (start N vs) H) : FnG P w K mg base CX0 (k + 1) f fd ps sp := by
  obtain ⟨oc, od, kV, doc, pm, an, cdv, ct, osl, rfl, lk, hcd⟩ := F.ex
  exact fnG_of lk hcd S len fun A hgd outer s H vs Q E hr hsp => let ⟨t, h, q⟩ := hbody cdv A hgd outer s H vs Q E hr hsp; ⟨t, h.nox, q⟩
end
section
variable {X : Cx} {CX : CXT} {k : Nat} {f : Addr} {fd : FuncData} {ps : List Str} {sp : Sp} {ds : List Value} {dvs : List V} {E : XK} {x : Str} {p pos : Pos} {e : Expr} {es : List Expr} {t : TA}
theorem pe_callG (F : FnG X.prog X.w X.K X.mg X.base CX k f fd ps sp) (hgd : X.A.guards = some []) (hr : Room k X.A) (hg : Gl X x) (hm : X.mg x = some (.ref f)) (hk : PySem.W.keepIn X.K (.ref f) = true) (hb : Binds X.K fd ps ds) (hd : Vals dvs ds) (hx : Passes CX X E)
    (ha : PA X (e :: es) t) (hdb : (x == ("__debug__" : Str)) = false := by decide) (he : starEach (e :: es) X.env = (false, eval e X.env) :: starEach es X.env := by rfl) (hpl : (backTo pos (starEach es X.env)).any (·.1) = false := by rfl) :
    PE X (.Call (.Name x p) (e :: es) [] pos) (tCall sp dvs E t) := by
  refine ⟨fun pins s σ H Q I h => wpAny_Call_Name_kw (ld_glob I hg hm (PySem.W.callWith_K (h₀ := X.base) I.ok.mod.kin hk (thn (ha.run pos pins s σ H _ I h) fun us s1 ⟨vs, H1, I1, r, q⟩ => ⟨I1.kIn, ?_⟩) he hpl) hdb)⟩
  have r2 : Vals (vs ++ dvs) (us ++ ds) := r.append hd
  have hl : (us ++ ds).length = ps.length := r2.length.symm.trans (F.len _ _ _ _ q)
  refine wpAny_call (codeAny_mono (F.run X.A hgd hr X.stack s1 H1 ⟨us, []⟩ (us ++ ds) (vs ++ dvs) Q E I1.env0 (hb s1 us I1.kIn hl) r2 q) fun res s' hq => ?_)
  rcases res with e | fl
  · exact hx pins σ H1 s1 e s' I1 hq
  · rcases fl with _ | _ | _ | u
    · exact False.elim hq
    · exact False.elim hq
    · exact False.elim hq
    · exact I1.after hq
end

/-! ### repr of plain data -/
def rReprD (K : PySem.W.Frag) : List V → Hp → VK → Prop := fun xs H Q => ∃ (x : V) (d : PyData), xs = [x] ∧ Dp K H x d ∧ d.canLay0 = true ∧ d.showable = true ∧ d.depth ≤ 60 ∧ d.shown.length ≤ sizeLine ∧ Q (.str d.shown) H
theorem call_reprD {X : Cx} (hgd : X.A.guards = some []) (hu : X.A.units + 64 < cLine) : CallR X (.builtin "repr") (rReprD X.K) := by
  intro pins s σ H xs us Q I r h
  obtain ⟨x, d, rfl, hd, hc, hs, hdep, hz, q⟩ := h
  obtain ⟨u, rfl, rx⟩ := vals1 r
  obtain ⟨as, rd⟩ := Dp.reads I d x u hd rx
  have nd := PyData.hasDict_of_canLay d hc
  have fin : ∀ (h' : Heap) (v tk : Tok), (∀ b o, s.heap.get? b = some o → h'.get? b = some o) → EP X pins σ Q (.str d.shown v) { s with heap := h', toks := tk } := fun h' v tk hk => ⟨.str d.shown, H, I.kept hk, ⟨_, rfl⟩, q⟩
  cases rd with
  | none => exact PySem.P.repr_of_none (fin _ _ _ fun _ _ e => e)
  | bool b =>
    refine PySem.P.repr_of_bool ?_
    cases b <;> exact fin s.heap s.toks (s.toks + 1) fun _ _ e => e
  | int i t => exact PySem.P.repr_of_int (by simpa [PyData.showable] using hs) (fin s.heap s.toks (s.toks + 1) fun _ _ e => e)
  | str y t => exact PySem.P.repr_of_str (fin s.heap s.toks (s.toks + 1) fun _ _ e => e) hz
  | list h1 h2 h3 h4 => exact repr_of_reads' (.list h1 h2 h3 h4) hs (PyData.noDict_hsm nd) hgd (by omega) (fun _ _ e => e) fin hz
  | tuple h1 h2 h3 h4 => exact repr_of_reads' (.tuple h1 h2 h3 h4) hs (PyData.noDict_hsm nd) hgd (by omega) (fun _ _ e => e) fin hz
  | dict h1 h2 h3 h4 h5 => simp [PyData.canLay0] at hc

/-! ### the end: a law whose promise asks that no repr is under way -/
theorem law_callG {P : Program} {w : World} {K : PySem.W.Frag} {mg mb : Str → Option Value} {k : Nat} {fa a : Addr} {fd : FuncData} {x : Str} {sp : Sp} {s₁ : Shared} {vs : List Value} {ns : List Int}
    (KX : K.In s₁.heap) (hns : s₁.heap.Ns mainGlobals mg) (hb : s₁.heap.Ns builtinsNs mb) (hbb : ∀ x : Str, x ≠ "__name__" → mb x = bootBuiltins x) (hlim : s₁.heap.NoLimit) (hg : s₁.gens = #[])
    (ha : s₁.heap.get? a = some { cls := .type "list", data := .seq vs.toArray }) (hi : IntsAre vs ns) (hl : ns.length ≤ sizeLine) (hr : Room k callerA)
    (F : ∀ base : Heap, K.In base → base.Ns mainGlobals mg → FnG P w K mg base CX0 k fa fd [x] sp) (hbind : ∀ (s : Shared) (u : Value), BindsTo s fd ⟨[u], []⟩ [(x, u)])
    (hsp : ∀ H : Hp, SqL K H a (ns.map V.int) → sp [.ref a] H (fun v _ => v = .bl true) fun _ _ _ => False) :
    codeAny (model P w) callerA (.call (.ref fa) ⟨[.ref a], []⟩) (fun r s' => r = .ok (.ret (.bool true)) ∧ OldK s₁.heap s'.heap ∧ s'.os = s₁.os ∧ AllBare s'.gens) s₁ := by
  let oS : Obj := { cls := .type "list", data := .seq vs.toArray }
  -- the script is tracked as it stands, unless it is one of the module's own objects
  let H : Hp := fun b => if b = a ∧ K.lookup a = none then some (.frz oS (.lst (ns.map V.int))) else none
  have rv := vals_ints hi
  have Hsome : ∀ {b : Addr} {o : HO}, H b = some o → b = a ∧ K.lookup a = none ∧ o = .frz oS (.lst (ns.map V.int)) := fun {b o} e => by
    by_cases c : b = a ∧ K.lookup a = none
    · have e' := (if_pos c).symm.trans e
      exact ⟨c.1, c.2, (Option.some.inj e').symm⟩
    · have e' := (if_neg c).symm.trans e
      cases e'
  have free : ∀ {b : Addr}, (∀ z : b = a, K.lookup a ≠ none) → H b = none := fun {b} n => if_neg fun c => n c.1 c.2
  have hS : SqL K H a (ns.map V.int) := by
    cases hk : K.lookup a with
    | none => exact .inl (.inr ⟨oS, if_pos ⟨rfl, hk⟩⟩)
    | some o =>
      have e := (KX a o hk).symm.trans ha
      cases e
      exact .inr ⟨_, vs.toArray, _, hk, rfl, rfl, rfl, by rw [List.size_toArray, hi.length]; exact hl, by simpa using rv⟩
  have hok : HOk P w H s₁.heap := fun b o e => by
    obtain ⟨rfl, _, rfl⟩ := Hsome e
    exact ⟨ha, by rw [List.length_map]; exact hl, vs, _, rv, ha⟩
  have noDict : ∀ {b : Addr} {o : Obj} {es : Array DictEntry} {ep : Nat}, s₁.heap.get? b = some o → o.data = .dict es ep → H b = none := fun {b o es ep} e d => free fun z => by
    subst z
    rw [ha] at e
    cases e
    cases d
  have ns_hid : ∀ {b : Addr} {m : Str → Option Value}, s₁.heap.Ns b m → (hidT s₁.heap H).Ns b m := fun {b m} ⟨o, es, ep, e, d, r⟩ => ⟨o, es, ep, hidT_get e (noDict e d), d, r⟩
  have hKb : K.In (hidT s₁.heap H) := fun b o e => hidT_get (KX b o e) (free fun z => by subst z; rw [e]; exact fun y => nomatch y)
  have hM : Mod K mg (hidT s₁.heap H) := ⟨hKb, ns_hid hns, ⟨mb, ns_hid hb, hbb⟩, let ⟨mc, h1, h2⟩ := hlim; ⟨mc, ns_hid h1, h2⟩⟩
  have e0 : Env0 P w K mg (hidT s₁.heap H) callerA [] s₁ H := ⟨rfl, hM, fun b o e => of_hidT e, Nat.le_of_eq (hidT_size _ _), trivial, (fun b hb => absurd (show b ∈ ([] : List Addr) from hb) (by simp)), hok, .of_eq hg⟩
  refine codeAny_mono ((F _ hKb (ns_hid hns)).run callerA rfl hr [] s₁ H ⟨[.ref a], []⟩ [.ref a] [.ref a] _ _ e0 (hbind s₁ (.ref a)) (.cons rfl .nil) (hsp H hS)) fun r s' h => ?_
  rcases r with e | fl
  · exact False.elim h
  rcases fl with _ | _ | _ | u
  · exact False.elim h
  · exact False.elim h
  · exact False.elim h
  obtain ⟨v, H', os, bare, un, hok', r', q⟩ := h
  have q' : v = .bl true := q
  subst q'
  obtain rfl : u = Value.bool true := r'
  refine ⟨rfl, OldK.of_keep fun b o e => ?_, os, bare⟩
  cases hb' : H b with
  | none => exact un.keep b o e hb' (fun z => absurd (show b ∈ ([] : List Addr) from z) (by simp)) (by simp)
  | some u =>
    obtain ⟨rfl, hk, rfl⟩ := Hsome hb'
    have e2 := (hok' _ _ (un.frzs _ oS _ hb')).1
    rw [ha] at e
    cases e
    exact e2
theorem walk_ofG {l : PySem.W.OpenLaw} {n k : Nat} {q : Program} {loose : List Str} {XP : (Str → Option Value) → Heap → Prop} {YP : World → Heap → Prop} {d : DefRec} {K : Params → PySem.W.Frag} {sp : PySem.W.Frag → Sp} {x : Str}
    (hn : l.most = some n) (hn2 : n ≤ sizeLine) (hdf : d.params.defaults = []) (hr : Room k callerA)
    (hY : ∀ (w : World) (h : Heap), YP w h → (K w.params).In h)
    (F : ∀ (w : World) (mg : Str → Option Value) (fa : Addr) (h : Heap), (K w.params).In h → h.Ns mainGlobals mg → mg d.name = some (.ref fa) →
      ∃ fd : FuncData, (∀ (s : Shared) (u : Value), BindsTo s fd ⟨[u], []⟩ [(x, u)]) ∧
        ∀ base : Heap, (K w.params).In base → base.Ns mainGlobals mg → FnG l.prog w (K w.params) mg base CX0 k fa fd [x] (sp (K w.params)))
    (hsp : ∀ (K : PySem.W.Frag) (H : Hp) (a : Addr) (ns : List Int), ns.length ≤ n → SqL K H a (ns.map V.int) → sp K [.ref a] H (fun v _ => v = .bl true) fun _ _ _ => False) :
    PySem.W.WalkO q loose XP YP l.row.toRowW d [] (fun f vs => PySem.call f vs) :=
  Att.attach_call hn hdf fun w s₀ s₁ mg mb fa o pm cd doc a vs ns G Y ho hd hcd hmg hobj hints hlen hg =>
    have KX := hY w _ Y
    let ⟨fd, hb, hF⟩ := F w mg fa _ KX G.T.g hmg
    law_callG KX G.T.g G.T.b G.T.builtins G.T.nolimit hg hobj hints (Nat.le_trans hlen hn2) hr hF hb fun H hS => hsp _ H a ns hlen hS
end MB

set_option maxHeartbeats 4000000
namespace MB
open PySem PySem.Spec PyProof.Rows L2
/-- data whose repr is asked: levels, size -/
structure Rp (k n : Nat) (d : PyData) : Prop where
  sh : Sh k d
  shw : d.showable = true
  short : d.leavesShort 13 = true
  bulk : d.bulk ≤ n
theorem Rp.mono {k n m : Nat} {d : PyData} (h : Rp k n d) (e : n ≤ m) : Rp k m d := ⟨h.sh, h.shw, h.short, Nat.le_trans h.bulk e⟩
theorem Rp.int {i : Int} {k : Nat} (h : i.natAbs < 1000000) : Rp k 0 (.int i) := by
  refine ⟨.int i, ?_, ?_, by simp [PyData.bulk]⟩
  · simp only [PyData.showable]
    refine decide_eq_true ?_
    by_cases h0 : i.natAbs = 0
    · rw [h0]; decide
    · exact Nat.lt_trans ((Nat.log2_lt h0).mpr (show i.natAbs < 2 ^ 20 by omega)) (by decide)
  · simp only [PyData.leavesShort]
    refine decide_eq_true ?_
    have e := int_text_length_le10 (a := i) (k := 6) (by decide) h
    have e2 : (PyData.shown (.int i)).length = (toString i).length := by
      simp only [PyData.shown]
      exact PySem.ofString_length _
    omega
theorem rp_all {k n : Nat} : ∀ {ds : List PyData}, (∀ d, d ∈ ds → Rp k n d) → PyData.showableAll ds = true ∧ PyData.leavesShortAll 13 ds = true ∧ PyData.bulkAll ds ≤ (n + 1) * ds.length
  | [], _ => ⟨by simp [PyData.showableAll], by simp [PyData.leavesShortAll], by simp [PyData.bulkAll]⟩
  | d :: ds, h => by
    have h1 := h d (List.mem_cons_self ..)
    obtain ⟨a, b, c⟩ := rp_all fun e he => h e (List.mem_cons_of_mem _ he)
    refine ⟨by simp only [PyData.showableAll, h1.shw, a, Bool.and_self], by simp only [PyData.leavesShortAll, h1.short, b, Bool.and_self], ?_⟩
    simp only [PyData.bulkAll, List.length_cons]
    have := h1.bulk
    rw [Nat.mul_add]
    omega
theorem Rp.tup {k n m : Nat} {ds : List PyData} (h : ∀ d, d ∈ ds → Rp k n d) (hm : (n + 1) * ds.length ≤ m) : Rp (k + 1) m (.tuple ds) := by
  obtain ⟨a, b, c⟩ := rp_all h
  exact ⟨Sh.tup fun d hd => (h d hd).sh, by simp only [PyData.showable]; exact a, by simp only [PyData.leavesShort]; exact b, by simp only [PyData.bulk]; omega⟩
theorem Rp.lst {k n m : Nat} {ds : List PyData} (h : ∀ d, d ∈ ds → Rp k n d) (hm : (n + 1) * ds.length ≤ m) : Rp (k + 1) m (.list ds) := by
  obtain ⟨a, b, c⟩ := rp_all h
  exact ⟨Sh.lst fun d hd => (h d hd).sh, by simp only [PyData.showable]; exact a, by simp only [PyData.leavesShort]; exact b, by simp only [PyData.bulk]; omega⟩
theorem Rp.ints {ns : List Int} {k m : Nat} (h : ∀ i, i ∈ ns → i.natAbs < 1000000) (hm : ns.length ≤ m) : Rp (k + 1) m (.tuple (ns.map PyData.int)) :=
  Rp.tup (n := 0) (fun d hd => by obtain ⟨i, hi, rfl⟩ := List.mem_map.mp hd; exact .int (h i hi)) (by rw [List.length_map]; omega)
theorem Rp.bool {b : Bool} {k : Nat} : Rp k 0 (.bool b) := ⟨⟨by simp [PyData.canLay0], by simp [PyData.depth]⟩, by simp [PyData.showable], by simp [PyData.leavesShort], by simp [PyData.bulk]⟩
/-- repr(x), by data -/
theorem repr_read {K : PySem.W.Frag} {H : Hp} {x : V} {d : PyData} {Q : VK} {k n : Nat} (hd : Dp K H x d) (hs : Rp k n d) (hk : k ≤ 60) (hn : n ≤ 1048576) (q : Q (.str d.shown) H) : rReprD K [x] H Q :=
  ⟨x, d, rfl, hd, hs.sh.1, hs.shw, Nat.le_trans hs.sh.2 hk, PyData.shown_fits_bulk (B := 13) (by decide) (by decide) hs.short (Nat.le_trans hs.bulk (by omega)), q⟩
theorem Rp.all {k n : Nat} {d : PyData} (hs : Rp k n d) (hk : k ≤ 60) (hn : n ≤ 1048576) : d.canLay0 = true ∧ d.showable = true ∧ d.depth ≤ 60 ∧ d.shown.length ≤ sizeLine :=
  ⟨hs.sh.1, hs.shw, Nat.le_trans hs.sh.2 hk, PyData.shown_fits_bulk (B := 13) (by decide) (by decide) hs.short (Nat.le_trans hs.bulk (by omega))⟩
end MB

set_option maxHeartbeats 4000000
namespace MB
open PySem PySem.Spec PyProof.Rows L2
/-- data whose repr is asked: levels, size -/
structure RpW (k n : Nat) (d : PyData) : Prop where
  sh : Sh k d
  shw : d.showable = true
  short : d.leavesShort  75 = true
  bulk : d.bulk ≤ n
theorem RpW.mono {k n m : Nat} {d : PyData} (h : RpW k n d) (e : n ≤ m) : RpW k m d := ⟨h.sh, h.shw, h.short, Nat.le_trans h.bulk e⟩
theorem RpW.int {i : Int} {k : Nat} (h : i.natAbs < 10 ^ 70) : RpW k 0 (.int i) := by
  refine ⟨.int i, ?_, ?_, by simp [PyData.bulk]⟩
  · simp only [PyData.showable]
    refine decide_eq_true ?_
    by_cases h0 : i.natAbs = 0
    · rw [h0]; decide
    · exact Nat.lt_trans ((Nat.log2_lt h0).mpr (show i.natAbs < 2 ^ 240 by exact Nat.lt_trans h (by decide +kernel))) (by decide)
  · simp only [PyData.leavesShort]
    refine decide_eq_true ?_
    have e := int_text_length_le10 (a := i) (k := 70) (by decide) h
    have e2 : (PyData.shown (.int i)).length = (toString i).length := by
      simp only [PyData.shown]
      exact PySem.ofString_length _
    omega
theorem rpW_all {k n : Nat} : ∀ {ds : List PyData}, (∀ d, d ∈ ds → RpW k n d) → PyData.showableAll ds = true ∧ PyData.leavesShortAll  75 ds = true ∧ PyData.bulkAll ds ≤ (n + 1) * ds.length
  | [], _ => ⟨by simp [PyData.showableAll], by simp [PyData.leavesShortAll], by simp [PyData.bulkAll]⟩
  | d :: ds, h => by
    have h1 := h d (List.mem_cons_self ..)
    obtain ⟨a, b, c⟩ := rpW_all fun e he => h e (List.mem_cons_of_mem _ he)
    refine ⟨by simp only [PyData.showableAll, h1.shw, a, Bool.and_self], by simp only [PyData.leavesShortAll, h1.short, b, Bool.and_self], ?_⟩
    simp only [PyData.bulkAll, List.length_cons]
    have := h1.bulk
    rw [Nat.mul_add]
    omega
theorem RpW.tup {k n m : Nat} {ds : List PyData} (h : ∀ d, d ∈ ds → RpW k n d) (hm : (n + 1) * ds.length ≤ m) : RpW (k + 1) m (.tuple ds) := by
  obtain ⟨a, b, c⟩ := rpW_all h
  exact ⟨Sh.tup fun d hd => (h d hd).sh, by simp only [PyData.showable]; exact a, by simp only [PyData.leavesShort]; exact b, by simp only [PyData.bulk]; omega⟩
theorem RpW.lst {k n m : Nat} {ds : List PyData} (h : ∀ d, d ∈ ds → RpW k n d) (hm : (n + 1) * ds.length ≤ m) : RpW (k + 1) m (.list ds) := by
  obtain ⟨a, b, c⟩ := rpW_all h
  exact ⟨Sh.lst fun d hd => (h d hd).sh, by simp only [PyData.showable]; exact a, by simp only [PyData.leavesShort]; exact b, by simp only [PyData.bulk]; omega⟩
theorem RpW.ints {ns : List Int} {k m : Nat} (h : ∀ i, i ∈ ns → i.natAbs < 10 ^ 70) (hm : ns.length ≤ m) : RpW (k + 1) m (.tuple (ns.map PyData.int)) :=
  RpW.tup (n := 0) (fun d hd => by obtain ⟨i, hi, rfl⟩ := List.mem_map.mp hd; exact .int (h i hi)) (by rw [List.length_map]; omega)
theorem RpW.bool {b : Bool} {k : Nat} : RpW k 0 (.bool b) := ⟨⟨by simp [PyData.canLay0], by simp [PyData.depth]⟩, by simp [PyData.showable], by simp [PyData.leavesShort], by simp [PyData.bulk]⟩
theorem fits75 {d : PyData} (hl : d.leavesShort 75 = true) (hw : d.bulk ≤ 100000) : d.shown.length ≤ sizeLine := by
  have h := PyData.shown_le_bulk 75 (by decide) d hl
  have h2 : (75 + 2) * d.bulk ≤ 77 * 100000 := Nat.mul_le_mul (by omega) (by omega)
  have e : sizeLine = 16777216 := by decide
  omega
/-- repr(x), by data -/
theorem reprW_read {K : PySem.W.Frag} {H : Hp} {x : V} {d : PyData} {Q : VK} {k n : Nat} (hd : Dp K H x d) (hs : RpW k n d) (hk : k ≤ 60) (hn : n ≤ 100000) (q : Q (.str d.shown) H) : rReprD K [x] H Q :=
  ⟨x, d, rfl, hd, hs.sh.1, hs.shw, Nat.le_trans hs.sh.2 hk, fits75 hs.short (Nat.le_trans hs.bulk hn), q⟩
theorem RpW.all {k n : Nat} {d : PyData} (hs : RpW k n d) (hk : k ≤ 60) (hn : n ≤ 100000) : d.canLay0 = true ∧ d.showable = true ∧ d.depth ≤ 60 ∧ d.shown.length ≤ sizeLine :=
  ⟨hs.sh.1, hs.shw, Nat.le_trans hs.sh.2 hk, fits75 hs.short (Nat.le_trans hs.bulk hn)⟩
end MB

set_option maxHeartbeats 4000000
namespace MB
open PySem PySem.Spec PyProof.Rows L2

/-! ### f(p = v), no value by position -/
def gK {α : Type} (us ws : List α) : List α := match us with
  | [] => ws
  | _ :: _ => []
section
variable {X : Cx} {CX : CXT} {k : Nat} {f : Addr} {fd : FuncData} {ps ks : List Str} {sp : Sp} {E : XK} {x : Str} {p pos : Pos} {kws : List Keyword} {tk : TA} {g : List Value → List Value → List Value} {gV : List V → List V → List V}
theorem pe_callK0 (F : FnOk X.prog X.w X.K X.mg X.base CX k f fd ps sp) (hr : Room k X.A) (hg : Gl X x) (hm : X.mg x = some (.ref f)) (hk : PySem.W.keepIn X.K (.ref f) = true) (hb : KBinds X.K fd ps ks g gV) (hx : Passes CX X E)
    (hkw : PK X kws tk) (hall : (backToKw pos (keywordEach kws X.env)).all (·.1.isSome) = true := by rfl) (hks : (backToKw pos (keywordEach kws X.env)).filterMap (·.1) = ks := by rfl)
    (hdb : (x == ("__debug__" : Str)) = false := by decide)
    (hpl : ((backTo pos (starEach [] X.env)).any (·.1) || (backToKw pos (keywordEach kws X.env)).any (·.1.isNone)) = false := by rfl) :
    PE X (.Call (.Name x p) [] kws pos) (tCallK sp gV E tNil tk) := by
  refine ⟨fun pins s σ H Q I h => ?_⟩
  refine wpAny_Call_Name_kw (ld_glob I hg hm ?_ hdb)
  refine PySem.W.callWith_KW0 (h₀ := X.base) I.ok.mod.kin hk hall ?_ hpl
  refine thn (hkw.run pos pins s σ H _ I h) fun ws s2 ⟨zs, H2, I2, rz, q2⟩ => ⟨I2.kIn, ?_⟩
  rw [hks]
  exact run_fnk (us := []) (vs := []) F hr hb hx I2 .nil rz q2
end
theorem kb1 {K : PySem.W.Frag} {x qual : Str} {st : Stmt} {f : Addr} {fd : FuncData} {q : Str} (F : L2.Fun K x qual st f fd)
    (h : ∀ (kV doc pm : Value) (an : Option Addr) (cdv ct u : Value), bindArgs (PySem.W.fnOf x qual (defArgs st) (defBody st) (defScope st) .none kV doc pm an cdv ct) ⟨[], [(q, u)]⟩ = pure [(q, u)]) : KBinds K fd [q] [q] gK gK := by
  obtain ⟨oc, od, kV, doc, pm, an, cdv, ct, osl, rfl, lk, hcd⟩ := F.ex
  refine ⟨fun s us ws _ hl => ?_, fun {vs us zs ws} r1 r2 => ?_⟩
  · cases us with
    | cons u us => exact nomatch hl
    | nil =>
      match ws, hl with
      | [u], _ => exact .of_eq (h kV doc pm an cdv ct u)
  · cases r1 with
    | nil => exact r2
    | cons _ _ => exact .nil

/-! ### a comprehension with a test -/
theorem lc_sel {K : PySem.W.Frag} {J : It} {n : Nat} {G : Hp → Prop} {Y : Nat → Hp → V → Hp → Prop} (w : Walk J n G Y) {g : TG} {tt : TT} {te : TE} {vs : List Nat} {σ : L2.St} {H1 : Hp} {D : Addr} {Qd : Hp → Prop}
    (f : Nat → Bool) (d : Nat → PyData) (ht : ∀ i, i < n → Tf (d i)) (hn : n ≤ 1000) (hD : H1 D = none) (hG : ∀ H, Same H1 H → G H)
    (hs : ∀ i x H H', i < n → Same H1 H → Y i H x H' → ∀ R : V → Hp → Prop, (∀ y H4, Same H H4 → Dp K H4 y (d i) → R y H4) →
      g x (wipe σ vs) H' fun σ2 H2 => wipe σ2 vs = wipe σ vs ∧ tt σ2 H2 fun b H3 => b = f i ∧ Same H H3 ∧ (b = true → te σ2 H3 R))
    (hd : ∀ H acc, Same H1 H → H D = some (.lst acc) → DpAll K H acc (((List.range n).filter f).map d) → Qd H)
    (mg : ∀ x σ' H' (Q Q' : L2.St → Hp → Prop), (∀ a b, Q a b → Q' a b) → g x σ' H' Q → g x σ' H' Q') (mt : ∀ σ' H' (Q Q' : Bool → Hp → Prop), (∀ a b, Q a b → Q' a b) → tt σ' H' Q → tt σ' H' Q') :
    ∃ W : Nat → Nat → Hp → Prop, (∃ m, W 0 m (upd H1 D (.lst []))) ∧ ∀ i m H, W i m H →
      (J.stop i H ∧ Qd H) ∨ (J.go i H ∧ ∃ Nx : Hp → Prop, (∀ H', Nx H' → ∃ m', m' < m ∧ W (i + 1) m' H') ∧ ∀ x H', J.yld i H x H' → g x (wipe σ vs) H' fun σ2 H2 => wipe σ2 vs = wipe σ vs ∧ tt σ2 H2 fun b H3 =>
        if b = true then te σ2 H3 fun y H4 => ∃ acc, H4 D = some (.lst acc) ∧ acc.length < sizeLine ∧ Nx (upd H4 D (.lst (acc ++ [y]))) else Nx H3) := by
  refine lc_it w (fun i H => Same H1 H ∧ ∃ acc, H D = some (.lst acc) ∧ DpAll K H acc (((List.range i).filter f).map d)) ⟨same_upd hD, [], upd_same, .nil⟩ (fun i H _ h => hG H h.1) ?_ ?_
  · rintro i x H H' hi ⟨s1, acc, ha, hA⟩ hy
    have hlen := DpAll.len hA
    have hle : acc.length ≤ i := by
      rw [hlen, List.length_map]
      have := List.length_filter_le f (List.range i)
      rw [List.length_range] at this
      exact this
    refine mg _ _ _ _ _ ?_ (hs i x H H' hi s1 hy (fun y H4 => ∃ acc, H4 D = some (.lst acc) ∧ acc.length < sizeLine ∧ (f i = true → Same H1 (upd H4 D (.lst (acc ++ [y]))) ∧ ∃ acc', (upd H4 D (.lst (acc ++ [y]))) D = some (.lst acc') ∧ DpAll K (upd H4 D (.lst (acc ++ [y]))) acc' (((List.range (i + 1)).filter f).map d))) ?_)
    · rintro σ2 H2 ⟨h1, h2⟩
      refine ⟨h1, mt _ _ _ _ ?_ h2⟩
      rintro b H3 ⟨hb, s3, h3⟩
      cases b with
      | true =>
        refine iteT ?_
        have h4 := h3 rfl
        have hb' := hb.symm
        simp only [hb', true_implies] at h4
        exact h4
      | false =>
        refine iteF ⟨s1.trans s3, acc, s3 _ _ ha, ?_⟩
        rw [List.range_succ, List.filter_append, List.map_append]
        have e : List.filter f [i] = [] := by rw [List.filter_cons, if_neg (by rw [← hb]; decide)]; rfl
        rw [e, List.map_nil, List.append_nil]
        exact DpAll.same s3 hA
    · intro y H4 s4 hy4
      refine ⟨acc, s4 _ _ ha, sz61 (by omega), fun hf => ⟨Same.mut (s1.trans s4) hD, acc ++ [y], upd_same, ?_⟩⟩
      have kp : Keep K H4 (upd H4 D (.lst (acc ++ [y]))) := But.keep But.upd (s4 _ _ ha)
      have e : List.filter f [i] = [i] := by rw [List.filter_cons, if_pos hf]; rfl
      rw [List.range_succ, List.filter_append, List.map_append, e]
      refine DpAll.keep kp (fun d' h => ?_) (DpAll.append (DpAll.same s4 hA) (.cons hy4 .nil))
      rcases List.mem_append.mp h with h | h
      · obtain ⟨j, hj, rfl⟩ := List.mem_map.mp h
        have := List.mem_range.mp (List.mem_filter.mp hj).1
        exact ht j (by omega)
      · have e : d' = d i := by simpa using h
        rw [e]; exact ht i hi
  · rintro H ⟨s1, acc, ha, hA⟩
    exact hd H acc s1 ha hA
end MB

set_option maxHeartbeats 4000000
namespace MB
open PySem PySem.Spec PyProof.Rows L2
/-! ### x *= e -/
theorem ip_mulW {X : Cx} : PIp X .Mult (fun x y H Q => ∃ i j, x = .int i ∧ y = .int j ∧ CMulW i j ∧ Q (.int (i * j)) H) := by
  intro pins s σ H x y v u Q I r1 r2 h
  obtain ⟨i, j, e1, e2, hc, q⟩ := h
  subst e1; subst e2
  obtain ⟨t, rfl⟩ := r1
  obtain ⟨t', rfl⟩ := r2
  exact imul_int ⟨.int _, H, I.tok _, ⟨_, rfl⟩, q⟩ hc.ok
/-! ### f(q = v, p = w): by keywords in any order -/
def gP {α : Type} (idx : List Nat) (us ws : List α) : List α := match us with
  | [] => idx.filterMap fun i => ws[i]?
  | _ :: _ => []
theorem gP_take {α : Type} {n : Nat} {ws : List α} : ∀ {idx : List Nat}, (∀ i, i ∈ idx → i < n) → (idx.filterMap fun i => (ws.take n)[i]?) = idx.filterMap fun i => ws[i]?
  | [], _ => rfl
  | i :: idx, h => by
    have h1 := h i (List.mem_cons_self ..)
    have h2 := gP_take (α := α) (n := n) (ws := ws) (idx := idx) fun j hj => h j (List.mem_cons_of_mem _ hj)
    rw [List.filterMap_cons, List.filterMap_cons, h2, List.getElem?_take, if_pos h1]
theorem gP_len {α : Type} {ws : List α} : ∀ {idx : List Nat}, (idx.filterMap fun i => ws[i]?).length = idx.length → ∀ i, i ∈ idx → i < ws.length
  | [], _, i, h => nomatch h
  | j :: idx, hl, i, h => by
    cases e : ws[j]? with
    | none =>
      simp only [List.filterMap_cons, e] at hl
      have := List.length_filterMap_le (fun i => ws[i]?) idx
      simp only [List.length_cons] at hl
      omega
    | some x =>
      simp only [List.filterMap_cons, e, List.length_cons, Nat.add_right_cancel_iff] at hl
      rcases List.mem_cons.mp h with h | h
      · subst h
        exact (List.getElem?_eq_some_iff.mp e).1
      · exact gP_len hl i h
theorem gP_rel {zs : List V} {ws : List Value} (r : Vals zs ws) : ∀ idx : List Nat, Vals (idx.filterMap fun i => zs[i]?) (idx.filterMap fun i => ws[i]?)
  | [] => .nil
  | i :: idx => by
    have ih := gP_rel r idx
    cases e : zs[i]? with
    | none =>
      have e2 : ws[i]? = none := List.getElem?_eq_none (by rw [← r.length]; exact List.getElem?_eq_none_iff.mp e)
      simp only [List.filterMap_cons, e, e2]; exact ih
    | some x =>
      obtain ⟨u, e2, ru⟩ := r.get e
      simp only [List.filterMap_cons, e, e2]; exact .cons ru ih
theorem zip_take {α β : Type} : ∀ (ks : List α) (ws : List β), ks.zip (ws.take ks.length) = ks.zip ws
  | [], _ => rfl
  | _ :: _, [] => rfl
  | k :: ks, w :: ws => by simp [zip_take ks ws]
theorem kbP {K : PySem.W.Frag} {x qual : Str} {st : Stmt} {f : Addr} {fd : FuncData} {ps ks : List Str} {idx : List Nat} (F : L2.Fun K x qual st f fd) (hi : idx.length = ps.length) (hk : ks.length = ps.length) (hp : 0 < ps.length)
    (hall : (∀ i, i ∈ idx → i < ps.length) ∧ ps.length - 1 ∈ idx)
    (h : ∀ (kV doc pm : Value) (an : Option Addr) (cdv ct : Value) (ws : List Value), ws.length = ps.length → bindArgs (PySem.W.fnOf x qual (defArgs st) (defBody st) (defScope st) .none kV doc pm an cdv ct) ⟨[], ks.zip ws⟩ = pure (ps.zip (gP idx [] ws))) : KBinds K fd ps ks (gP idx) (gP idx) := by
  obtain ⟨oc, od, kV, doc, pm, an, cdv, ct, osl, rfl, lk, hcd⟩ := F.ex
  refine ⟨fun s us ws _ hl => ?_, fun {vs us zs ws} r1 r2 => ?_⟩
  · cases us with
    | cons u us =>
      have : 0 = ps.length := hl
      omega
    | nil =>
      have hl' : (idx.filterMap fun i => ws[i]?).length = idx.length := by rw [hi]; exact hl
      have h2 := gP_len hl' _ hall.2
      have h3 := h kV doc pm an cdv ct (ws.take ps.length) (by rw [List.length_take]; omega)
      have e1 : gP idx [] (ws.take ps.length) = gP idx [] ws := gP_take hall.1
      have e2 : ks.zip (ws.take ps.length) = ks.zip ws := by
        rw [← hk]
        exact zip_take ks ws
      rw [e1, e2] at h3
      exact .of_eq h3
  · cases r1 with
    | nil => exact gP_rel r2 idx
    | cons _ _ => exact .nil
section
variable {X : Cx} {CX : CXT} {k : Nat} {f : Addr} {fd : FuncData} {ps ks : List Str} {sp : Sp} {E : XK} {x : Str} {p pos : Pos} {kws : List Keyword} {tk : TA} {g : List Value → List Value → List Value} {gV : List V → List V → List V}
end
end MB

set_option maxHeartbeats 4000000
namespace MB
open PySem PySem.Spec PyProof.Rows L2
/-- tuple(range(i, j, k)) -/
def tTupR3 (ta : TA) : TE := fun σ H Q => ta σ H fun vs H1 => ∃ (i j k : Int) (n : Nat), vs = [.int i, .int j, .int k] ∧ RgC i j k n ∧ n ≤ 2 ^ 24 ∧ ∀ q, H1 q = none → Q (.ref q) (upd H1 q (.tup ((List.range n).map fun (m : Nat) => V.int (i + (m : Int) * k))))
theorem pe_tupR3 {X : Cx} {a b c : Expr} {ta : TA} {p p' pos pos' : Pos} (hc : X.calm = true) (hg : Gl X "tuple") (hm : X.mg "tuple" = none) (hg' : Gl X "range") (hm' : X.mg "range" = none) (ha : PA X [a, b, c] ta)
    (hs : starEach [a, b, c] X.env = (false, eval a X.env) :: starEach [b, c] X.env := by rfl) (hpl : (backTo pos' (starEach [b, c] X.env)).any (·.1) = false := by rfl)
    (na : starEach [.Call (.Name "range" p') [a, b, c] [] pos'] X.env = (false, eval (.Call (.Name "range" p') [a, b, c] [] pos') X.env) :: starEach [] X.env := by rfl) :
    PE X (.Call (.Name "tuple" p) [.Call (.Name "range" p') [a, b, c] [] pos'] [] pos) (tTupR3 ta) := by
  refine ⟨fun pins s σ H Q I h => ?_⟩
  refine Call_ (ld_blt I hg hm boot_tuple (PyProof.Rows.callWith_type1 (args_cons (Call_ (ld_blt I hg' hm' boot_range (PyProof.Rows.callWith_type1 (thn (ha.run pos' pins s σ H _ I h) fun us s1 ⟨vs, H1, I1, r1, q1⟩ => ?_) hs hpl))) na) na))
  obtain ⟨i, j, k, n, rfl, ⟨c0, c1, c2, c3⟩, hn, q⟩ := q1
  obtain ⟨u1, u2, u3, rfl, ⟨t1, rfl⟩, ⟨t2, rfl⟩, ⟨t3, rfl⟩⟩ : ∃ u1 u2 u3, us = [u1, u2, u3] ∧ RelV (.int i) u1 ∧ RelV (.int j) u2 ∧ RelV (.int k) u3 := by
    cases r1 with
    | cons x1 y1 => cases y1 with
      | cons x2 y2 => cases y2 with
        | cons x3 y3 => cases y3; exact ⟨_, _, _, rfl, x1, x2, x3⟩
  refine call_range_3 c0 (args_nil ?_) (.inl (PyProof.noPylong_small c1))
  have I2 : Inv X pins σ H1 { s1 with heap := s1.heap.push { cls := .type "range", data := .fields #[.int i t1, .int j t2, .int k t3] } } := I1.kept (t' := s1.toks) fun b o e => Heap.get?_push_of_some _ e
  refine call_tuple_range (n := n) (I2.ok.hd hc) (IsRange.new ..) c2 c3 hn fun h' tk acc hk hi => ?_
  have I3 : Inv X pins σ H1 { s1 with heap := h', toks := tk } := I2.kept hk
  have hv : Vals ((List.range n).map fun (m : Nat) => V.int (i + (m : Int) * k)) acc.toList := by
    have e : acc.toList.length = n := by rw [Array.length_toList]; exact hi.1
    rw [← e]
    refine vals_of_get acc.toList _ fun m u hj => ?_
    obtain ⟨t, rfl⟩ := hi.2 m u (by rw [← hj, Array.getElem?_toList])
    exact ⟨t, rfl⟩
  refine ⟨.ref h'.objs.size, _, I3.laid (o := .tup ((List.range n).map fun (m : Nat) => V.int (i + (m : Int) * k))) (t' := tk) (fun c o e => Heap.get?_push_of_some _ e) (Nat.le_refl _) ⟨?_, acc.toList, hv, ?_⟩, rfl, q _ (I3.hok.fresh (Nat.le_refl _))⟩
  · rw [List.length_map, List.length_range, sizeLine_eq]; omega
  · rw [Array.toArray_toList]; exact IsTup.new _ _
end MB

set_option maxHeartbeats 4000000
namespace MB
open PySem PySem.Spec PyProof.Rows L2
theorem blT {c : Prop} [Decidable c] (h : c) : V.bl (decide c) = V.bl true := by rw [decide_eq_true h]
theorem blF {c : Prop} [Decidable c] (h : ¬ c) : V.bl (decide c) = V.bl false := by rw [decide_eq_false h]
theorem nblF {c : Prop} [Decidable c] (h : c) : V.bl (!decide c) = V.bl false := by rw [decide_eq_true h]; rfl
theorem nblT {c : Prop} [Decidable c] (h : ¬ c) : V.bl (!decide c) = V.bl true := by rw [decide_eq_false h]; rfl
theorem int_ne {i j : Int} (h : i ≠ j) : ¬ V.int i = V.int j := fun e => h (by injection e)
theorem dp_bls_inv {K : PySem.W.Frag} {H : Hp} : ∀ {ns : List Bool} {vs : List V}, DpAll K H vs (ns.map PyData.bool) → vs = ns.map V.bl
  | [], _, .nil => rfl
  | n :: ns, _, .cons a b => by
    cases a
    rw [dp_bls_inv b]
    rfl
/-- a comprehension whose items are truth values -/
theorem lc_bools {K : PySem.W.Frag} {J : It} {n : Nat} {G : Hp → Prop} {Y : Nat → Hp → V → Hp → Prop} (w : Walk J n G Y) {g : TG} {tt : TT} {te : TE} {vs : List Nat} {σ : L2.St} {H1 : Hp} {D : Addr} {Qd : Hp → Prop}
    (bs : List Bool) (hl : bs.length = n) (hn : n ≤ 1000) (hD : H1 D = none) (hG : ∀ H, Same H1 H → G H)
    (hs : ∀ i x H H', i < n → Same H1 H → Y i H x H' → ∀ b, bs[i]? = some b → ∀ R : V → Hp → Prop, (∀ H4, Same H H4 → R (.bl b) H4) →
      g x (wipe σ vs) H' fun σ2 H2 => wipe σ2 vs = wipe σ vs ∧ tt σ2 H2 fun b H3 => b = true ∧ te σ2 H3 R)
    (hd : ∀ H, Same H1 H → H D = some (.lst (bs.map V.bl)) → Qd H)
    (mg : ∀ x σ' H' (Q Q' : L2.St → Hp → Prop), (∀ a b, Q a b → Q' a b) → g x σ' H' Q → g x σ' H' Q') (mt : ∀ σ' H' (Q Q' : Bool → Hp → Prop), (∀ a b, Q a b → Q' a b) → tt σ' H' Q → tt σ' H' Q') :
    ∃ W : Nat → Nat → Hp → Prop, (∃ m, W 0 m (upd H1 D (.lst []))) ∧ ∀ i m H, W i m H →
      (J.stop i H ∧ Qd H) ∨ (J.go i H ∧ ∃ Nx : Hp → Prop, (∀ H', Nx H' → ∃ m', m' < m ∧ W (i + 1) m' H') ∧ ∀ x H', J.yld i H x H' → g x (wipe σ vs) H' fun σ2 H2 => wipe σ2 vs = wipe σ vs ∧ tt σ2 H2 fun b H3 =>
        if b = true then te σ2 H3 fun y H4 => ∃ acc, H4 D = some (.lst acc) ∧ acc.length < sizeLine ∧ Nx (upd H4 D (.lst (acc ++ [y]))) else Nx H3) := by
  refine lc_all (K := K) w (bs.map PyData.bool) (by rw [List.length_map, hl]) (fun d h => ?_) hn hD hG ?_ ?_ mg mt
  · obtain ⟨b, _, rfl⟩ := List.mem_map.mp h
    exact .bl b
  · intro i x H H' hi s y d hd' R hR
    rw [List.getElem?_map] at hd'
    cases e : bs[i]? with
    | none => rw [e] at hd'; cases hd'
    | some b =>
      rw [e] at hd'
      cases hd'
      exact hs i x H H' hi s y b e R fun H4 s4 => hR _ _ s4 (.bl b)
  · intro H acc s ha hA
    rw [dp_bls_inv hA] at ha
    exact hd H s ha
/-- a comprehension whose items are numbers -/
theorem lc_ints {K : PySem.W.Frag} {J : It} {n : Nat} {G : Hp → Prop} {Y : Nat → Hp → V → Hp → Prop} (w : Walk J n G Y) {g : TG} {tt : TT} {te : TE} {vs : List Nat} {σ : L2.St} {H1 : Hp} {D : Addr} {Qd : Hp → Prop}
    (bs : List Int) (hl : bs.length = n) (hn : n ≤ 1000) (hD : H1 D = none) (hG : ∀ H, Same H1 H → G H)
    (hs : ∀ i x H H', i < n → Same H1 H → Y i H x H' → ∀ b, bs[i]? = some b → ∀ R : V → Hp → Prop, (∀ H4, Same H H4 → R (.int b) H4) →
      g x (wipe σ vs) H' fun σ2 H2 => wipe σ2 vs = wipe σ vs ∧ tt σ2 H2 fun b H3 => b = true ∧ te σ2 H3 R)
    (hd : ∀ H, Same H1 H → H D = some (.lst (bs.map V.int)) → Qd H)
    (mg : ∀ x σ' H' (Q Q' : L2.St → Hp → Prop), (∀ a b, Q a b → Q' a b) → g x σ' H' Q → g x σ' H' Q') (mt : ∀ σ' H' (Q Q' : Bool → Hp → Prop), (∀ a b, Q a b → Q' a b) → tt σ' H' Q → tt σ' H' Q') :
    ∃ W : Nat → Nat → Hp → Prop, (∃ m, W 0 m (upd H1 D (.lst []))) ∧ ∀ i m H, W i m H →
      (J.stop i H ∧ Qd H) ∨ (J.go i H ∧ ∃ Nx : Hp → Prop, (∀ H', Nx H' → ∃ m', m' < m ∧ W (i + 1) m' H') ∧ ∀ x H', J.yld i H x H' → g x (wipe σ vs) H' fun σ2 H2 => wipe σ2 vs = wipe σ vs ∧ tt σ2 H2 fun b H3 =>
        if b = true then te σ2 H3 fun y H4 => ∃ acc, H4 D = some (.lst acc) ∧ acc.length < sizeLine ∧ Nx (upd H4 D (.lst (acc ++ [y]))) else Nx H3) := by
  refine lc_all (K := K) w (bs.map PyData.int) (by rw [List.length_map, hl]) (tf_ints _) hn hD hG ?_ ?_ mg mt
  · intro i x H H' hi s y d hd' R hR
    rw [List.getElem?_map] at hd'
    cases e : bs[i]? with
    | none => rw [e] at hd'; cases hd'
    | some b =>
      rw [e] at hd'
      cases hd'
      exact hs i x H H' hi s y b e R fun H4 s4 => hR _ _ s4 (.int b)
  · intro H acc s ha hA
    rw [dp_ints_inv hA] at ha
    exact hd H s ha
theorem k_pgTN {X : Cx} {K : PySem.W.Frag} {x y z : Str} {px py pz p1 : Pos} {k k1 : Nat} {pos : Pos} {t1 t2 : TG} (hK : X.K = K) (hc : X.calm = true) (h1 : PG X (.Tuple [.Name x px, .Name y py] k1 p1) t1) (h2 : PG X (.Name z pz) t2) : PG X (.Tuple [.Tuple [.Name x px, .Name y py] k1 p1, .Name z pz] k pos) (gTup K 2 (gCons t1 (gCons t2 gNil))) := by
  subst hK
  exact pg_tup hc (pgs_cons h1 (pgs_cons h2 pgs_nil))
theorem mono_pair2 {K : PySem.W.Frag} {n n' i j l : Nat} (x : V) (σ' : L2.St) (H' : Hp) (Q Q' : L2.St → Hp → Prop) (h : ∀ a b, Q a b → Q' a b) (e : gTup K n (gCons (gTup K n' (gCons (gName i) (gCons (gName j) gNil))) (gCons (gName l) gNil)) x σ' H' Q) : gTup K n (gCons (gTup K n' (gCons (gName i) (gCons (gName j) gNil))) (gCons (gName l) gNil)) x σ' H' Q' := by
  obtain ⟨a, xs, e1, e2, e3, v, r, e4, b, ys, f1, f2, f3, v1, r1, f4, v2, r2, f5, f6, v', r', e5, e6, q⟩ := e
  exact ⟨a, xs, e1, e2, e3, v, r, e4, b, ys, f1, f2, f3, v1, r1, f4, v2, r2, f5, f6, v', r', e5, e6, h _ _ q⟩
theorem ci_sum : ∀ p : List Nat, (ci p).sum = ((p.sum : Nat) : Int)
  | [] => rfl
  | x :: p => by
    have := ci_sum p
    simp only [ci, List.map_cons, List.sum_cons, Int.natCast_add] at this ⊢
    rw [this]
theorem cutV_to {p : List Nat} {m : Nat} (h : m ≤ p.length) : cutV (vi p) none (some (m : Int)) = vi (p.take m) := by
  rw [cut_to (by rw [vi_len]; exact h)]; simp [vi, List.map_take]
theorem cutV_from {p : List Nat} {m : Nat} (h : m ≤ p.length) : cutV (vi p) (some (m : Int)) none = vi (p.drop m) := by
  rw [cut_from (by rw [vi_len]; exact h)]; simp [vi, List.map_drop]
theorem cut_drop {p : List Nat} {m : Nat} (h : m ≤ p.length) : cutV (vi p) (some (m : Int)) none = (ci (p.drop m)).map V.int := by
  rw [cutV_from h, vi_ci]
theorem isi_int {K : PySem.W.Frag} {H : Hp} {i : Int} {Q : VK} (q : Q (.bl true) H) : rIsi K [.int i, .ty "int"] H Q :=
  ⟨.int i, .ty "int", .type "int", .type "int", true, rfl, .ty _, .base (.int i), kit_ty (by decide +kernel), q⟩
theorem isi_bool {K : PySem.W.Frag} {H : Hp} {i : Int} {Q : VK} (q : Q (.bl false) H) : rIsi K [.int i, .ty "bool"] H Q :=
  ⟨.int i, .ty "bool", .type "int", .type "bool", false, rfl, .ty _, .base (.int i), kit_ty (by decide +kernel), q⟩
theorem nth3 {n : Nat} (x : List V) (h : x.length = n) (i : Nat) (hi : i < (if (if (x.length : Int) < 3 then (x.length : Int) else 3) > 1 then (if (x.length : Int) < 3 then (x.length : Int) else 3) else 1 : Int).toNat) : i ≤ 62 := by
  have : (if (if (x.length : Int) < 3 then (x.length : Int) else 3) > 1 then (if (x.length : Int) < 3 then (x.length : Int) else 3) else 1) ≤ 3 := by split <;> split <;> omega
  omega
end MB

set_option maxHeartbeats 4000000
namespace MB
open PySem PySem.Spec PyProof.Rows L2
theorem alike_ints (ns : List Int) : PySem.W.AlikeAll (ns.map PyData.int) := by
  refine ⟨fun x hx y hy => ?_, fun x hx e => ?_⟩
  · obtain ⟨i, _, rfl⟩ := List.mem_map.mp hx
    obtain ⟨j, _, rfl⟩ := List.mem_map.mp hy
    simp [PySem.W.alike]
  · obtain ⟨i, _, rfl⟩ := List.mem_map.mp hx
    cases e
theorem depth_ints : ∀ ns : List Int, PyData.depthAll (ns.map PyData.int) = 0
  | [] => by simp [PyData.depthAll]
  | n :: ns => by simp [PyData.depthAll, PyData.depth, depth_ints ns]
/-! ### max of a tuple of ints; with default= -/
def rMaxT (K : PySem.W.Frag) : List V → Hp → VK → Prop := fun xs H Q => ∃ (a : Addr) (n : Int) (ns : List Int), xs = [V.ref a] ∧ SqT K H a ((n :: ns).map V.int) ∧ Q (.int (ns.foldl max n)) H
theorem cr_maxT {X : Cx} {K : PySem.W.Frag} (hK : X.K = K) (hc : X.calm = true) (hu : X.A.units + 64 < cLine) : CallR X (.builtin "max") (rMaxT K) := by
  subst hK
  intro pins s σ H vs us Q I r h
  obtain ⟨a, n, ns, rfl, hs, q⟩ := h
  obtain ⟨its, rv, hl, _⟩ := I.tuple hs
  rw [Vals.ref1 r]
  obtain ⟨as, rd⟩ := Dp.readsAll I ((n :: ns).map PyData.int) _ its (dp_ints (n :: ns)) rv
  refine PySem.W.max_tuple_data (x := .int n) (xs := ns.map PyData.int) (I.ok.hd hc) hl (by simpa using rd) (alike_ints (n :: ns)) ?_ fun i v h' tk bs _ hr hk => ?_
  · have := depth_ints (n :: ns)
    rw [List.map_cons] at this
    rw [this]; omega
  · rw [PySem.W.maxD_ints] at hr
    cases hr
    exact ⟨.int _, H, I.kept hk, ⟨_, rfl⟩, q⟩
def rMaxDef (K : PySem.W.Frag) : List V → List V → Hp → VK → Prop := fun xs zs H Q => ∃ (a : Addr) (z : Int) (ns : List Int), xs = [V.ref a] ∧ zs = [V.int z] ∧ SqT K H a (ns.map V.int) ∧ (ns = [] → Q (.int z) H) ∧ ∀ m r, ns = m :: r → Q (.int (r.foldl max m)) H
theorem cr_maxDef {X : Cx} {K : PySem.W.Frag} (hK : X.K = K) (hc : X.calm = true) (hu : X.A.units + 64 < cLine) : CallRK X (.builtin "max") [Str.ofString "default"] (rMaxDef K) := by
  subst hK
  intro pins s σ H vs zs us ws Q I r rz h
  obtain ⟨a, z, ns, rfl, rfl, hs, q0, q1⟩ := h
  obtain ⟨its, rv, hl, _⟩ := I.tuple hs
  rw [Vals.ref1 r]
  obtain ⟨u, rfl, tz, rfl⟩ := vals1 rz
  obtain ⟨as, rd⟩ := Dp.readsAll I (ns.map PyData.int) _ its (dp_ints ns) rv
  refine PySem.W.max_tuple_default (xs := ns.map PyData.int) (I.ok.hd hc) hl (by simpa using rd) (alike_ints ns) ?_ (fun e h' tk hk => ?_) fun y ys i v h' tk bs e _ hr hk => ?_
  · rw [depth_ints ns]; omega
  · exact ⟨.int z, H, I.kept hk, ⟨_, rfl⟩, q0 (List.map_eq_nil_iff.mp e)⟩
  · cases ns with
    | nil => cases e
    | cons m t =>
      rw [List.map_cons] at e
      cases e
      rw [PySem.W.maxD_ints] at hr
      cases hr
      exact ⟨.int _, H, I.kept hk, ⟨_, rfl⟩, q1 m t rfl⟩
/-! ### sorted of a tuple of ints -/
section
variable {prog : Program} {w : World} {A : Around} {E : Value → Shared → Prop} {s : Shared}
theorem gather_tuple {p : Addr} {xs : List Value} {R : List Value → Shared → Prop} (ht : s.heap.IsTuple p xs.toArray) (hz : xs.length ≤ sizeLine)
    (q : R xs { s with heap := (s.heap.push (seqObj "list" #[] 0)).update s.heap.objs.size (Obj.mapSeq (· ++ xs.toArray)) }) : wpAny (model prog w) A (collect (.ref p)) R E s := by
  obtain ⟨ob, hob, hcl, ep, hdt⟩ := id ht
  unfold collect
  refine wpAny_bind (wpAny_runValue (codeAny_builtin entry_proto_collect' (show wpAny _ _ (do again (.builtin "list.__iadd__" ⟨[← newList [], .ref p], []⟩)) _ _ s from ?_)))
  refine wpAny_bind (wpAny_newList (wpAny_pure ⟨Code.quiet_builtin _ (by decide +kernel), codeAny_builtin entry_list_iadd' (show wpAny _ _ (Builtin.List.listExtendWith (.ref s.heap.objs.size) (.ref p) (.ref s.heap.objs.size)) _ _ { s with heap := s.heap.push (seqObj "list" #[] 0) } from ?_)⟩))
  unfold Builtin.List.listExtendWith
  have hob' : (s.heap.push (seqObj "list" #[] 0)).get? p = some ob := Heap.get?_push_of_some _ hob
  refine wpAny_bind (wpAny_typeOf (T := "tuple") ⟨ob, hob', hcl⟩ ?_)
  have tt : (Value.type "tuple" == Value.type "tuple") = true := by rfl
  rw [if_pos (by rw [tt]; simp)]
  refine wpAny_bind (listItems_at hob' hdt (wpAny_bind (listItems_at (xs := #[]) (n := 0) (Heap.get?_push_size _ rfl) rfl ?_)))
  rw [if_neg (by simp)]
  refine wpAny_bind (listUpdate_at (xs := #[]) (n := 0) (Heap.get?_push_size _ rfl) rfl (wpAny_pure ?_) (Nat.zero_le _) (by show (#[] ++ xs.toArray).size ≤ sizeLine + 1; simp only [Array.size_append, List.size_toArray, List.length_nil]; omega))
  show wpAny (model prog w) A (load s.heap.objs.size >>= _) R E { s with heap := (s.heap.push (seqObj "list" #[] 0)).update s.heap.objs.size (Obj.mapSeq (· ++ xs.toArray)) }
  refine wpAny_bind (wpAny_load (get?_update_seq (Heap.get?_push_size _ rfl) _) (show wpAny _ _ (pure ((#[] : Array Value) ++ xs.toArray).toList) R E _ from ?_))
  have ex : ((#[] : Array Value) ++ xs.toArray).toList = xs := by simp
  rw [ex]
  exact wpAny_pure q
theorem sorted_tup {p : Addr} {xs : List Value} {ns : List Int} {Q : Value → Shared → Prop} (ht : s.heap.IsTuple p xs.toArray) (hz : xs.length ≤ sizeLine) (hi : IntsAre xs ns)
    (q : ∀ out : List Value, SrtO.Srtd SrtO.ltIv out → SrtO.Stb SrtO.ltIv out xs → Q (.ref (s.heap.objs.size + 1)) { s with heap := sortedAll s.heap xs out.toArray }) :
    wpAny (model prog w) A (call (.builtin "sorted") [.ref p]) Q E s := by
  refine Calls.call_function_entry kind_sorted plain_sorted entry_sorted (args_sorted1 _) ?_
  unfold Builtin.«sorted»
  refine wpAny_bind (m := checkCount "sorted" 1 1 _) (wpAny_pure (wpAny_bind (gather_tuple ht hz (wpAny_bind (wpAny_newList ?_ hz)))))
  have sz1 : ((s.heap.push (seqObj "list" #[] 0)).update s.heap.objs.size (Obj.mapSeq (· ++ xs.toArray))).objs.size = s.heap.objs.size + 1 := (Heap.size_update ..).trans (Heap.size_push ..)
  have hoL := Heap.get?_push_size ((s.heap.push (seqObj "list" #[] 0)).update s.heap.objs.size (Obj.mapSeq (· ++ xs.toArray))) (o := seqObj "list" xs.toArray 0) rfl
  rw [sz1] at hoL
  show wpAny _ _ _ _ _ { s with heap := ((s.heap.push (seqObj "list" #[] 0)).update s.heap.objs.size (Obj.mapSeq (· ++ xs.toArray))).push (seqObj "list" xs.toArray 0) }
  rw [sz1]
  exact wpAny_bind (wpAny_holding (wpAny_call_entry PyProof.Rows.slot_list_sort ⟨_, hoL, rfl⟩ PyProof.Rows.entry_list_sort (SrtO.list_sort_ord SrtO.swo_int hoL hz (fun h2 => SrtO.ints_sortable hi h2) fun out hs hb => ⟨_, rfl, wpAny_pure ⟨_, rfl, q out hs hb⟩⟩) (PyProof.Rows.args_list_sort _)))
end
def rSortT (K : PySem.W.Frag) : List V → Hp → VK → Prop := fun xs H Q => ∃ (a : Addr) (ns : List Int), xs = [V.ref a] ∧ SqT K H a (ns.map V.int) ∧ ∀ (ms : List Int) (p : Addr), ms.Perm ns → H p = none → Q (.ref p) (upd H p (.lst (ms.map V.int)))
theorem cr_sortTI {X : Cx} : CallR X (.builtin "sorted") (rSortT X.K) := by
  intro pins s σ H vs us Q I r h
  obtain ⟨a, ns, rfl, hs, q⟩ := h
  obtain ⟨its, rv, hl, hz⟩ := I.tuple hs
  rw [Vals.ref1 r]
  have hi := rv.ints
  refine sorted_tup hl (by rw [← rv.length]; exact hz) hi fun out h1 h2 => ?_
  obtain ⟨k1, k2, k3⟩ := SrtO.ints_out hi h1 h2
  obtain ⟨ep, he'⟩ := sortedAll_at s.heap its out.toArray
  have hlen : ((out.map SrtO.iv).map V.int).length ≤ sizeLine := by
    have := k2.length_eq
    simp only [List.length_map] at this hz ⊢
    omega
  exact ⟨.ref _, upd H (s.heap.objs.size + 1) (.lst ((out.map SrtO.iv).map V.int)), I.laid (t' := s.toks) (fun _ _ e => sortedAll_old e) (Nat.le_succ _) ⟨hlen, out, ep, vals_of_ints k1, he'⟩, rfl, q _ _ k2 (I.hok.fresh (Nat.le_succ _))⟩
end MB

set_option maxHeartbeats 4000000
namespace MB
/-- the first of the least among f 0 .. f n -/
def amin (f : Nat → Int) : Nat → Nat
  | 0 => 0
  | n + 1 => if f (n + 1) < f (amin f n) then n + 1 else amin f n
theorem amin_le (f : Nat → Int) : ∀ n, amin f n ≤ n
  | 0 => Nat.le_refl _
  | n + 1 => by
    have := amin_le f n
    unfold amin
    split <;> omega
theorem amin_min (f : Nat → Int) : ∀ n k, k ≤ n → f (amin f n) ≤ f k
  | 0, k, h => by
    have : k = 0 := by omega
    rw [this]
    exact Int.le_refl _
  | n + 1, k, h => by
    have ih := amin_min f n
    unfold amin
    split
    · rename_i hlt
      by_cases e : k = n + 1
      · rw [e]
        exact Int.le_refl _
      · have := ih k (by omega)
        omega
    · rename_i hlt
      by_cases e : k = n + 1
      · rw [e]
        omega
      · exact ih k (by omega)
theorem amin_first (f : Nat → Int) : ∀ n k, k < amin f n → f (amin f n) < f k
  | 0, k, h => by simp [amin] at h
  | n + 1, k, h => by
    have ih := amin_first f n
    have hm := amin_min f n
    unfold amin at h ⊢
    split at h
    · rename_i hlt
      rw [if_pos hlt]
      have := hm k (by omega)
      omega
    · rename_i hlt
      rw [if_neg hlt]
      exact ih k h
theorem amin_uniq {f : Nat → Int} {n a : Nat} (ha : a ≤ n) (h1 : ∀ k, k ≤ n → f a ≤ f k) (h2 : ∀ k, k < a → f a < f k) : amin f n = a := by
  rcases Nat.lt_trichotomy (amin f n) a with h | h | h
  · have := h2 _ h
    have := amin_min f n a ha
    omega
  · exact h
  · have := amin_first f n a h
    have := h1 _ (amin_le f n)
    omega
theorem amin_like {f g : Nat → Int} {n : Nat} (h : ∀ j k, j ≤ n → k ≤ n → (f j < f k ↔ g j < g k)) : amin f n = amin g n := by
  refine amin_uniq (amin_le g n) (fun k hk => ?_) (fun k hk => ?_)
  · have h1 := amin_min g n k hk
    have h2 := h k (amin g n) hk (amin_le g n)
    by_cases e : f k < f (amin g n)
    · have := h2.mp e; omega
    · omega
  · have h0 := amin_le g n
    exact (h _ _ (amin_le g n) (by omega)).mpr (amin_first g n k hk)
theorem amin_congr {f g : Nat → Int} {n : Nat} (h : ∀ k, k ≤ n → f k = g k) : amin f n = amin g n :=
  amin_like fun j k hj hk => by rw [h j hj, h k hk]
/-- the cost of the root i + k of the m flushes from i on -/
def cst (S R : Nat → Int) (i m k : Nat) : Int := S (i + k + 1) - S i + R (i + m) - R (i + k)
def lwF (S R : Nat → Int) : Nat → Nat → Nat → Int
  | 0, _, _ => 0
  | _ + 1, _, 0 => 0
  | f + 1, i, m + 1 => (fun k => lwF S R f i k + lwF S R f (i + k + 1) (m - k) + cst S R i (m + 1) k) (amin (fun k => lwF S R f i k + lwF S R f (i + k + 1) (m - k) + cst S R i (m + 1) k) m)
theorem lwF_eq (S R : Nat → Int) : ∀ f m i, m ≤ f → lwF S R f i m = lwF S R m i m := by
  have key : ∀ f, ∀ m i, m ≤ f → lwF S R (f + 1) i m = lwF S R f i m := by
    intro f
    induction f with
    | zero => intro m i h; have : m = 0 := by omega
              subst this; rfl
    | succ f ih =>
      intro m i h
      cases m with
      | zero => rfl
      | succ m =>
        have e : ∀ k, k ≤ m → lwF S R (f + 1) i k + lwF S R (f + 1) (i + k + 1) (m - k) + cst S R i (m + 1) k = lwF S R f i k + lwF S R f (i + k + 1) (m - k) + cst S R i (m + 1) k := fun k hk => by
          rw [ih k i (by omega), ih (m - k) (i + k + 1) (by omega)]
        show (fun k => lwF S R (f + 1) i k + lwF S R (f + 1) (i + k + 1) (m - k) + cst S R i (m + 1) k) (amin (fun k => lwF S R (f + 1) i k + lwF S R (f + 1) (i + k + 1) (m - k) + cst S R i (m + 1) k) m) = (fun k => lwF S R f i k + lwF S R f (i + k + 1) (m - k) + cst S R i (m + 1) k) (amin (fun k => lwF S R f i k + lwF S R f (i + k + 1) (m - k) + cst S R i (m + 1) k) m)
        rw [amin_congr e]
        exact e _ (amin_le _ _)
  intro f m i h
  induction f with
  | zero => have : m = 0 := by omega
            subst this; rfl
  | succ f ih =>
    by_cases e : m ≤ f
    · rw [key f m i e, ih e]
    · have : m = f + 1 := by omega
      rw [this]
/-- the least work of the m flushes from i on -/
def lw (S R : Nat → Int) (i m : Nat) : Int := lwF S R m i m
/-- the least work of the m + 1 flushes from i on with the root i + k -/
def via (S R : Nat → Int) (i m k : Nat) : Int := lw S R i k + lw S R (i + k + 1) (m - k) + cst S R i (m + 1) k
def rt (S R : Nat → Int) (i m : Nat) : Nat := amin (via S R i m) m
theorem lw_zero (S R : Nat → Int) (i : Nat) : lw S R i 0 = 0 := rfl
theorem lw_succ (S R : Nat → Int) (i m : Nat) : lw S R i (m + 1) = via S R i m (rt S R i m) := by
  have e : ∀ k, k ≤ m → lwF S R m i k + lwF S R m (i + k + 1) (m - k) + cst S R i (m + 1) k = via S R i m k := fun k hk => by
    rw [lwF_eq S R m k i hk, lwF_eq S R m (m - k) (i + k + 1) (by omega)]; rfl
  show (fun k => lwF S R m i k + lwF S R m (i + k + 1) (m - k) + cst S R i (m + 1) k) (amin (fun k => lwF S R m i k + lwF S R m (i + k + 1) (m - k) + cst S R i (m + 1) k) m) = _
  rw [amin_congr e]
  exact e _ (amin_le _ _)
theorem rt_le (S R : Nat → Int) (i m : Nat) : rt S R i m ≤ m := amin_le _ _
theorem lw_le (S R : Nat → Int) (i : Nat) {m k : Nat} (h : k ≤ m) : lw S R i (m + 1) ≤ via S R i m k := by
  rw [lw_succ]
  exact amin_min _ _ _ h
def ltF (S R : Nat → Int) : Nat → Nat → Nat → T
  | 0, _, _ => .nil
  | _ + 1, _, 0 => .nil
  | f + 1, i, m + 1 => .node (ltF S R f i (rt S R i m)) (ltF S R f (i + rt S R i m + 1) (m - rt S R i m))
theorem ltF_eq (S R : Nat → Int) : ∀ f m i, m ≤ f → ltF S R f i m = ltF S R m i m := by
  have key : ∀ f, ∀ m i, m ≤ f → ltF S R (f + 1) i m = ltF S R f i m := by
    intro f
    induction f with
    | zero => intro m i h; have : m = 0 := by omega
              subst this; rfl
    | succ f ih =>
      intro m i h
      cases m with
      | zero => rfl
      | succ m =>
        have hr := rt_le S R i m
        show T.node (ltF S R (f + 1) i (rt S R i m)) (ltF S R (f + 1) (i + rt S R i m + 1) (m - rt S R i m)) = T.node (ltF S R f i (rt S R i m)) (ltF S R f (i + rt S R i m + 1) (m - rt S R i m))
        rw [ih _ _ (by omega), ih _ _ (by omega)]
  intro f m i h
  induction f with
  | zero => have : m = 0 := by omega
            subst this; rfl
  | succ f ih =>
    by_cases e : m ≤ f
    · rw [key f m i e, ih e]
    · have : m = f + 1 := by omega
      rw [this]
/-- the tree of least roots of the m flushes from i on -/
def lt (S R : Nat → Int) (i m : Nat) : T := ltF S R m i m
theorem lt_zero (S R : Nat → Int) (i : Nat) : lt S R i 0 = .nil := rfl
theorem lt_succ (S R : Nat → Int) (i m : Nat) : lt S R i (m + 1) = .node (lt S R i (rt S R i m)) (lt S R (i + rt S R i m + 1) (m - rt S R i m)) := by
  have hr := rt_le S R i m
  show T.node (ltF S R m i (rt S R i m)) (ltF S R m (i + rt S R i m + 1) (m - rt S R i m)) = _
  rw [ltF_eq S R m _ i hr, ltF_eq S R m _ (i + rt S R i m + 1) (by omega)]; rfl
theorem lt_size (S R : Nat → Int) : ∀ m i, (lt S R i m).size = m := by
  intro m
  induction m using Nat.strongRecOn with
  | ind m ih =>
    intro i
    cases m with
    | zero => rfl
    | succ m =>
      have hr := rt_le S R i m
      rw [lt_succ]
      show (lt S R i (rt S R i m)).size + 1 + (lt S R (i + rt S R i m + 1) (m - rt S R i m)).size = m + 1
      rw [ih _ (by omega), ih _ (by omega)]
      omega
/-- only the differences count -/
theorem lw_shift {S R S' R' : Nat → Int} {d : Nat} {c c' : Int} : ∀ m i, (∀ j, i ≤ j → j ≤ i + m → S j = S' (j + d) + c ∧ R j = R' (j + d) + c') → lw S R i m = lw S' R' (i + d) m ∧ lt S R i m = lt S' R' (i + d) m := by
  intro m
  induction m using Nat.strongRecOn with
  | ind m ih =>
    intro i h
    cases m with
    | zero => exact ⟨rfl, rfl⟩
    | succ m =>
      have ev : ∀ k, k ≤ m → via S R i m k = via S' R' (i + d) m k := fun k hk => by
        have e1 := (ih k (by omega) i fun j h1 h2 => h j h1 (by omega)).1
        have e2 := (ih (m - k) (by omega) (i + k + 1) fun j h1 h2 => h j (by omega) (by omega)).1
        have a1 := (h (i + k + 1) (by omega) (by omega)).1
        have a2 := (h i (by omega) (by omega)).1
        have a3 := (h (i + (m + 1)) (by omega) (by omega)).2
        have a4 := (h (i + k) (by omega) (by omega)).2
        rw [show i + k + 1 + d = i + d + k + 1 by omega] at a1
        rw [show i + (m + 1) + d = i + d + (m + 1) by omega] at a3
        rw [show i + k + d = i + d + k by omega] at a4
        rw [show i + k + 1 + d = i + d + k + 1 by omega] at e2
        unfold via cst
        rw [e1, e2, a1, a2, a3, a4]
        omega
      have er : rt S R i m = rt S' R' (i + d) m := amin_congr ev
      have hr := rt_le S' R' (i + d) m
      refine ⟨?_, ?_⟩
      · rw [lw_succ, lw_succ, er]
        exact ev _ hr
      · rw [lt_succ, lt_succ, er]
        rw [(ih (rt S' R' (i + d) m) (by omega) i fun j h1 h2 => h j h1 (by omega)).2]
        rw [(ih (m - rt S' R' (i + d) m) (by omega) (i + rt S' R' (i + d) m + 1) fun j h1 h2 => h j (by omega) (by omega)).2]
        rw [show i + rt S' R' (i + d) m + 1 + d = i + d + rt S' R' (i + d) m + 1 by omega]
theorem rt_shift {S R S' R' : Nat → Int} {d : Nat} {c c' : Int} {m i : Nat} (h : ∀ j, i ≤ j → j ≤ i + (m + 1) → S j = S' (j + d) + c ∧ R j = R' (j + d) + c') : rt S R i m = rt S' R' (i + d) m := by
  refine amin_congr fun k hk => ?_
  have e1 := (lw_shift (S := S) (R := R) (S' := S') (R' := R') k i fun j h1 h2 => h j h1 (by omega)).1
  have e2 := (lw_shift (S := S) (R := R) (S' := S') (R' := R') (m - k) (i + k + 1) fun j h1 h2 => h j (by omega) (by omega)).1
  have a1 := (h (i + k + 1) (by omega) (by omega)).1
  have a2 := (h i (by omega) (by omega)).1
  have a3 := (h (i + (m + 1)) (by omega) (by omega)).2
  have a4 := (h (i + k) (by omega) (by omega)).2
  rw [show i + k + 1 + d = i + d + k + 1 by omega] at a1
  rw [show i + (m + 1) + d = i + d + (m + 1) by omega] at a3
  rw [show i + k + d = i + d + k by omega] at a4
  rw [show i + k + 1 + d = i + d + k + 1 by omega] at e2
  unfold via cst
  rw [e1, e2, a1, a2, a3, a4]
  omega
theorem lw_scale {S R : Nat → Int} {c : Int} (hc : 0 < c) : ∀ m i, lw (fun j => c * S j) (fun j => c * R j) i m = c * lw S R i m := by
  intro m
  induction m using Nat.strongRecOn with
  | ind m ih =>
    intro i
    cases m with
    | zero => rw [lw_zero, lw_zero, Int.mul_zero]
    | succ m =>
      have ev : ∀ k, k ≤ m → via (fun j => c * S j) (fun j => c * R j) i m k = c * via S R i m k := fun k hk => by
        unfold via cst
        rw [ih k (by omega), ih (m - k) (by omega)]
        simp only [Int.mul_add, Int.mul_sub]
      have er : rt (fun j => c * S j) (fun j => c * R j) i m = rt S R i m := amin_like fun j k hj hk => by
        rw [ev j hj, ev k hk]
        exact Int.mul_lt_mul_left hc
      rw [lw_succ, lw_succ, er]
      exact ev _ (rt_le _ _ _ _)
theorem rt_scale {S R : Nat → Int} {c : Int} (hc : 0 < c) (i m : Nat) : rt (fun j => c * S j) (fun j => c * R j) i m = rt S R i m :=
  amin_like fun j k hj hk => by
    have ev : ∀ k, k ≤ m → via (fun j => c * S j) (fun j => c * R j) i m k = c * via S R i m k := fun k hk => by
      unfold via cst
      rw [lw_scale hc, lw_scale hc]
      simp only [Int.mul_add, Int.mul_sub]
    rw [ev j hj, ev k hk]
    exact Int.mul_lt_mul_left hc
theorem lw_add {S R S' R' : Nat → Int} : ∀ m i, lw S R i m + lw S' R' i m ≤ lw (fun j => S j + S' j) (fun j => R j + R' j) i m := by
  intro m
  induction m using Nat.strongRecOn with
  | ind m ih =>
    intro i
    cases m with
    | zero => rw [lw_zero, lw_zero, lw_zero]; decide
    | succ m =>
      rw [lw_succ (fun j => S j + S' j)]
      generalize hk : rt (fun j => S j + S' j) (fun j => R j + R' j) i m = k
      have hk2 : k ≤ m := by rw [← hk]; exact rt_le _ _ _ _
      have h1 := lw_le S R i hk2
      have h2 := lw_le S' R' i hk2
      have h3 := ih k (by omega) i
      have h4 := ih (m - k) (by omega) (i + k + 1)
      unfold via cst at *
      dsimp only at *
      omega
def Mono (S : Nat → Int) : Prop := ∀ a b, a ≤ b → S a ≤ S b
theorem lw_nonneg {S R : Nat → Int} (hS : Mono S) (hR : Mono R) : ∀ m i, 0 ≤ lw S R i m := by
  intro m
  induction m using Nat.strongRecOn with
  | ind m ih =>
    intro i
    cases m with
    | zero => exact Int.le_refl _
    | succ m =>
      rw [lw_succ]
      have hk2 := rt_le S R i m
      generalize rt S R i m = k at hk2 ⊢
      have h3 := ih k (by omega) i
      have h4 := ih (m - k) (by omega) (i + k + 1)
      have h5 := hS i (i + k + 1) (by omega)
      have h6 := hR (i + k) (i + (m + 1)) (by omega)
      unfold via cst
      omega
theorem lw_last {S R : Nat → Int} (hS : Mono S) (hR : Mono R) : ∀ m i, lw S R i m + (S (i + m + 1) - S (i + m)) + (R (i + m + 1) - R (i + m)) ≤ lw S R i (m + 1) := by
  intro m
  induction m using Nat.strongRecOn with
  | ind m ih =>
    intro i
    rw [lw_succ]
    have hk2 := rt_le S R i m
    generalize rt S R i m = k at hk2 ⊢
    by_cases e : k = m
    · subst e
      unfold via cst
      rw [Nat.sub_self, lw_zero]
      have := hS i (i + k) (by omega)
      rw [show i + (k + 1) = i + k + 1 by omega]
      omega
    · obtain ⟨m', rfl⟩ : ∃ m', m = m' + 1 := ⟨m - 1, by omega⟩
      have h3 := ih (m' - k) (by omega) (i + k + 1)
      rw [show i + k + 1 + (m' - k) + 1 = i + (m' + 1) + 1 by omega, show i + k + 1 + (m' - k) = i + (m' + 1) by omega, show m' - k + 1 = m' + 1 - k by omega] at h3
      have h4 := lw_le S R i (show k ≤ m' by omega)
      have h5 := hR (i + (m' + 1)) (i + (m' + 1) + 1) (by omega)
      unfold via cst at *
      rw [show i + (m' + 1 + 1) = i + (m' + 1) + 1 by omega]
      omega
theorem lw_front {S R : Nat → Int} (hS : Mono S) (hR : Mono R) : ∀ m i, lw S R (i + 1) m ≤ lw S R i (m + 1) := by
  intro m
  induction m using Nat.strongRecOn with
  | ind m ih =>
    intro i
    rw [lw_succ S R i]
    have hk2 := rt_le S R i m
    generalize rt S R i m = k at hk2 ⊢
    cases k with
    | zero =>
      unfold via cst
      rw [lw_zero]
      have h5 := hS i (i + 0 + 1) (by omega)
      have h6 := hR (i + 0) (i + (m + 1)) (by omega)
      rw [Nat.sub_zero]
      rw [show i + 0 + 1 = i + 1 by omega] at *
      omega
    | succ k =>
      obtain ⟨m', rfl⟩ : ∃ m', m = m' + 1 := ⟨m - 1, by omega⟩
      have h3 := ih k (by omega) i
      have h4 := lw_le S R (i + 1) (show k ≤ m' by omega)
      have h5 := hS i (i + 1) (by omega)
      unfold via cst at *
      rw [show i + 1 + k + 1 = i + (k + 1) + 1 by omega, show i + 1 + (m' + 1) = i + (m' + 1 + 1) by omega, show i + 1 + k = i + (k + 1) by omega] at h4
      rw [show m' + 1 - (k + 1) = m' - k by omega]
      omega
theorem lw_join {S R : Nat → Int} (hS : Mono S) (hR : Mono R) {i m k : Nat} (h : k ≤ m) : lw S R i m ≤ lw S R i k + lw S R (i + k) (m - k) + (S (i + k) - S i + R (i + m) - R (i + k)) := by
  cases k with
  | zero =>
    rw [lw_zero, Nat.sub_zero, Nat.add_zero]
    have := hR i (i + m) (by omega)
    omega
  | succ k =>
    obtain ⟨m', rfl⟩ : ∃ m', m = m' + 1 := ⟨m - 1, by omega⟩
    have h1 := lw_last hS hR k i
    have h2 := lw_le S R i (show k ≤ m' by omega)
    have h3 := hS (i + k) (i + k + 1) (by omega)
    unfold via cst at h2
    rw [show m' + 1 - (k + 1) = m' - k by omega, show i + (k + 1) = i + k + 1 by omega]
    omega
def insS (S : Nat → Int) (p : Nat) : Nat → Int := fun j => if j ≤ p then S j else S (j - 1)
theorem lw_before {S R : Nat → Int} {p i m : Nat} (h : i + m ≤ p) : lw (insS S p) (insS R p) i m = lw S R i m := by
  refine (lw_shift (S := insS S p) (R := insS R p) (S' := S) (R' := R) (d := 0) (c := 0) (c' := 0) m i fun j h1 h2 => ?_).1
  unfold insS
  rw [if_pos (by omega), if_pos (by omega)]
  simp
theorem lw_behind {S R : Nat → Int} {p i m : Nat} (h : p < i) : lw S R (i - 1) m = lw (insS S p) (insS R p) i m := by
  have := (lw_shift (S := S) (R := R) (S' := insS S p) (R' := insS R p) (d := 1) (c := 0) (c' := 0) m (i - 1) fun j h1 h2 => ?_).1
  · rw [this, show i - 1 + 1 = i by omega]
  · unfold insS
    rw [if_neg (by omega), if_neg (by omega)]
    simp
theorem lw_ins {S R : Nat → Int} (hS : Mono S) (hR : Mono R) {p : Nat} : ∀ m i, i ≤ p → p ≤ i + m → lw S R i m ≤ lw (insS S p) (insS R p) i (m + 1) := by
  intro m
  induction m using Nat.strongRecOn with
  | ind m ih =>
    intro i hi hp
    rw [lw_succ (insS S p)]
    have hk2 := rt_le (insS S p) (insS R p) i m
    generalize rt (insS S p) (insS R p) i m = k at hk2 ⊢
    have sL : ∀ {F : Nat → Int} {j : Nat}, j ≤ p → insS F p j = F j := fun h => if_pos h
    have sR : ∀ {F : Nat → Int} {j : Nat}, p < j → insS F p j = F (j - 1) := fun h => if_neg (by omega)
    rcases Nat.lt_trichotomy (i + k) p with h | h | h
    · obtain ⟨m', rfl⟩ : ∃ m', m = m' + 1 := ⟨m - 1, by omega⟩
      have h1 := ih (m' - k) (by omega) (i + k + 1) (by omega) (by omega)
      rw [show m' - k + 1 = m' + 1 - k by omega] at h1
      have h2 := lw_le S R i (show k ≤ m' by omega)
      unfold via cst at *
      rw [lw_before (by omega), sL (F := S) (j := i + k + 1) (by omega), sL (F := S) (j := i) (by omega), sR (F := R) (j := i + (m' + 1 + 1)) (by omega), sL (F := R) (j := i + k) (by omega), show i + (m' + 1 + 1) - 1 = i + (m' + 1) by omega]
      omega
    · have h1 := lw_join hS hR (i := i) (m := m) (k := k) hk2
      unfold via cst
      rw [lw_before (by omega), ← lw_behind (by omega), sR (F := S) (j := i + k + 1) (by omega), sL (F := S) (j := i) (by omega), sR (F := R) (j := i + (m + 1)) (by omega), sL (F := R) (j := i + k) (by omega), show i + (m + 1) - 1 = i + m by omega, show i + k + 1 - 1 = i + k by omega]
      omega
    · obtain ⟨k', rfl⟩ : ∃ k', k = k' + 1 := ⟨k - 1, by omega⟩
      obtain ⟨m', rfl⟩ : ∃ m', m = m' + 1 := ⟨m - 1, by omega⟩
      have h1 := ih k' (by omega) i (by omega) (by omega)
      have h2 := lw_le S R i (show k' ≤ m' by omega)
      unfold via cst at *
      rw [← lw_behind (p := p) (i := i + (k' + 1) + 1) (by omega), sR (F := S) (j := i + (k' + 1) + 1) (by omega), sL (F := S) (j := i) (by omega), sR (F := R) (j := i + (m' + 1 + 1)) (by omega), sR (F := R) (j := i + (k' + 1)) (by omega), show i + (m' + 1 + 1) - 1 = i + (m' + 1) by omega, show i + (k' + 1) + 1 - 1 = i + k' + 1 by omega, show i + (k' + 1) - 1 = i + k' by omega, show m' + 1 - (k' + 1) = m' - k' by omega]
      omega
/-- sums of the first ones -/
def sm (l : List Int) (k : Nat) : Int := (l.take k).sum
theorem sm_zero (l : List Int) : sm l 0 = 0 := by simp [sm]
theorem sm_succ {l : List Int} {k : Nat} {x : Int} (h : l[k]? = some x) : sm l (k + 1) = sm l k + x := by
  unfold sm
  rw [List.take_add_one, h, Option.toList_some, List.sum_append]
  simp
theorem sm_mono {l : List Int} (h : ∀ x, x ∈ l → 0 ≤ x) : Mono (sm l) := by
  intro a b hab
  induction b with
  | zero => have : a = 0 := by omega
            subst this; exact Int.le_refl _
  | succ b ih =>
    by_cases e : a = b + 1
    · rw [e]; exact Int.le_refl _
    · have h1 := ih (by omega)
      cases hx : l[b]? with
      | none =>
        have : sm l (b + 1) = sm l b := by
          unfold sm
          rw [List.take_add_one, hx]
          simp
        omega
      | some x =>
        have := h x (List.mem_of_getElem? hx)
        rw [sm_succ hx]
        omega
end MB

set_option maxHeartbeats 4000000
namespace MB
open PySem PySem.Spec PyProof.Rows L2
/-! ### min of a list of pairs of ints -/
def dP (p : Int × Int) : PyData := .tuple [.int p.1, .int p.2]
theorem dP_toD (p : Int × Int) : PySem.W.Datum.toD p = dP p := rfl
theorem dP_map (ps : List (Int × Int)) : ps.map PySem.W.Datum.toD = ps.map dP := rfl
theorem depth_dP : ∀ ps : List (Int × Int), PyData.depthAll (ps.map dP) ≤ 1
  | [] => by simp [PyData.depthAll]
  | p :: ps => by
    have := depth_dP ps
    simp only [List.map_cons, PyData.depthAll, dP, PyData.depth] at *
    omega
theorem vals_at : ∀ {xs : List V} {its : List Value}, Vals xs its → ∀ {i : Nat} {v : Value}, its[i]? = some v → ∃ x, xs[i]? = some x ∧ RelV x v
  | _, _, .nil, i, v, h => by simp at h
  | _, _, .cons r rr, 0, v, h => by
    simp at h
    subst h
    exact ⟨_, rfl, r⟩
  | _, _, .cons r rr, i + 1, v, h => by
    obtain ⟨x, h1, h2⟩ := vals_at rr (i := i) (v := v) (by simpa using h)
    exact ⟨x, by simpa using h1, h2⟩
def rMinP (K : PySem.W.Frag) : List V → Hp → VK → Prop := fun xs H Q => ∃ (a : Addr) (us : List V) (p : Int × Int) (ps : List (Int × Int)), xs = [V.ref a] ∧ SqL K H a us ∧ DpAll K H us ((p :: ps).map dP) ∧ ∀ b, SqT K H b [V.int (PySem.W.minOf p ps).1, V.int (PySem.W.minOf p ps).2] → Q (.ref b) H
theorem minOf_mem (p : Int × Int) : ∀ ps : List (Int × Int), PySem.W.minOf p ps ∈ p :: ps := by
  intro ps
  unfold PySem.W.minOf
  induction ps generalizing p with
  | nil => simp
  | cons q ps ih =>
    rw [List.foldl_cons]
    have := ih (if PySem.W.DatumOrd.lt q p = true then q else p)
    rcases List.mem_cons.mp this with h | h
    · rw [h]
      split <;> simp
    · exact List.mem_cons_of_mem _ (List.mem_cons_of_mem _ h)
theorem cr_minP {X : Cx} {K : PySem.W.Frag} (hK : X.K = K) (hc : X.calm = true) (hu : X.A.units + 64 < cLine) : CallR X (.builtin "min") (rMinP K) := by
  subst hK
  intro pins s σ H vs us Q I r h
  obtain ⟨a, xs, p, ps, rfl, hs, hA, q⟩ := h
  obtain ⟨its, rv, hl, _⟩ := I.list hs
  rw [Vals.ref1 r]
  obtain ⟨as, rd⟩ := Dp.readsAll I _ _ its hA rv
  refine PySem.W.min_list_data (x := dP p) (xs := ps.map dP) (I.ok.hd hc) hl.isList (by simpa using rd) (PySem.W.alikeAll_datum (p :: ps)) ?_ fun i v h' tk bs hv hr hk => ?_
  · have := depth_dP (p :: ps)
    rw [List.map_cons] at this
    omega
  · have e := PySem.W.minD_map p ps
    rw [dP_map, dP_toD] at e
    rw [e, dP_toD] at hr
    generalize hm : PySem.W.minOf p ps = m at hr q
    obtain ⟨x, hx, rx⟩ := vals_at rv (i := i) (v := v) (by simpa using hv)
    have hi : i < ((p :: ps).map dP).length := by
      rw [← DpAll.len hA]
      exact (List.getElem?_eq_some_iff.mp hx).1
    obtain ⟨y, hy, hD⟩ := DpAll.get hA (List.getElem?_eq_getElem hi)
    rw [hx] at hy
    cases hy
    rw [List.getElem_map] at hD
    generalize (p :: ps)[i]'_ = pr at hD
    obtain ⟨m1, m2⟩ := m
    obtain ⟨n1, n2⟩ := pr
    obtain ⟨b, ys, rfl, hS, hB⟩ := Dp.tupInv hD
    have ey := dp_ints_inv (ns := [n1, n2]) hB
    subst ey
    cases rx
    obtain ⟨jts, rj, ho, _⟩ := I.tuple hS
    obtain ⟨o, ho1, ho2, n, ho3⟩ := ho
    have ho4 := hk _ _ ho1
    cases hr with
    | tuple g1 g2 g3 g4 =>
      rw [ho4] at g1
      cases g1
      rw [ho3] at g3
      cases g3
      cases rj with
      | cons r1 r2 =>
        cases r2 with
        | cons r3 r4 =>
          cases r4
          obtain ⟨t1, rfl⟩ := r1
          obtain ⟨t2, rfl⟩ := r3
          have e2 : (m1, m2) = (n1, n2) := by
            cases g4 with
            | cons k1 k2 =>
              cases k2 with
              | cons k3 k4 =>
                cases k1
                cases k3
                rfl
          refine ⟨.ref b, H, I.kept hk, rfl, q b ?_⟩
          rw [e2]
          exact hS
/-- the least pair, if the second ones ascend by one -/
theorem minOf_amin (f : Nat → Int) (b : Nat) : ∀ n, PySem.W.minOf (f 0, (b : Int)) ((List.range n).map fun j => (f (j + 1), ((b + (j + 1) : Nat) : Int))) = (f (amin f n), ((b + amin f n : Nat) : Int))
  | 0 => rfl
  | n + 1 => by
    have ih := minOf_amin f b n
    unfold PySem.W.minOf at ih ⊢
    rw [List.range_succ, List.map_append, List.foldl_append, ih]
    show (if (if f (n + 1) = f (amin f n) then decide (((b + (n + 1) : Nat) : Int) < ((b + amin f n : Nat) : Int)) else decide (f (n + 1) < f (amin f n))) = true then (f (n + 1), ((b + (n + 1) : Nat) : Int)) else (f (amin f n), ((b + amin f n : Nat) : Int))) = _
    have hl := amin_le f n
    have ea : amin f (n + 1) = if f (n + 1) < f (amin f n) then n + 1 else amin f n := rfl
    rw [ea]
    generalize amin f n = c at hl ⊢
    by_cases h1 : f (n + 1) = f c
    · rw [if_pos h1, if_neg (by simp; omega), if_neg (by omega)]
    · rw [if_neg h1]
      by_cases h2 : f (n + 1) < f c
      · rw [if_pos (by simpa using h2), if_pos h2]
      · rw [if_neg (by simpa using h2), if_neg h2]
/-! ### an index of a list or a tuple -/
def SqQ (K : PySem.W.Frag) (H : Hp) (a : Addr) (xs : List V) : Prop := SqL K H a xs ∨ SqT K H a xs
def rIxQ (K : PySem.W.Frag) : R2 := fun x y H Q => ∃ p xs i v, x = .ref p ∧ y = .int i ∧ SqQ K H p xs ∧ atI xs i = some v ∧ Q v H
theorem k_ixQ {X : Cx} {K : PySem.W.Frag} (hK : X.K = K) : IxR X (rIxQ K) := by
  subst hK
  intro value slice pins s σ H x y v u Q I rx ry h hs
  obtain ⟨p, xs, i, w, rfl, rfl, hq, ha, q⟩ := h
  rcases hq with hq | hq
  · exact ix_list value slice pins s σ H _ _ v u Q I rx ry ⟨p, xs, i, w, rfl, rfl, hq, ha, q⟩ hs
  · exact ix_tup value slice pins s σ H _ _ v u Q I rx ry ⟨p, xs, i, w, rfl, rfl, hq, ha, q⟩ hs
/-! ### zip of two tuples -/
theorem walk_zipT {K : PySem.W.Frag} {a b : Addr} {xs ys : List V} {n : Nat} (hn : n = min xs.length ys.length) : Walk (RZ.ItzT K a b) n (fun H => SqT K H a xs ∧ SqT K H b ys) (YPair (fun i => xs[i]?) (fun i => ys[i]?)) := by
  refine ⟨fun i H hi ⟨qx, qy⟩ => ⟨xs, ys, xs[i]'(by omega), ys[i]'(by omega), qx, qy, List.getElem?_eq_getElem (by omega), List.getElem?_eq_getElem (by omega)⟩, fun H ⟨qx, qy⟩ => ⟨xs, ys, qx, qy, by omega⟩, fun i H v H' hi ⟨qx, qy⟩ y => ?_⟩
  obtain ⟨T, u, z, e1, e2, e3, e4, e5⟩ := y
  exact ⟨T, u, z, e1, e2, e3, e4 xs qx, e5 ys qy⟩
end MB

set_option maxHeartbeats 4000000
namespace MB
open PySem PySem.Spec PyProof.Rows L2
/-! ### zip of a tuple and a list -/
def ItzM (K : PySem.W.Frag) (a b : Addr) : It where
  go := fun i H => ∃ xs ys x y, SqT K H a xs ∧ SqL K H b ys ∧ xs[i]? = some x ∧ ys[i]? = some y
  yld := fun i H v H' => ∃ N x y, v = .ref N ∧ H N = none ∧ H' = upd H N (.tup [x, y]) ∧ (∀ xs, SqT K H a xs → xs[i]? = some x) ∧ (∀ ys, SqL K H b ys → ys[i]? = some y)
  stop := fun i H => ∃ xs ys, SqT K H a xs ∧ SqL K H b ys ∧ i = min xs.length ys.length
theorem apart_sep {z TI TO i1 i2 a b : Addr} (D : ZipApart z TI TO i1 i2 a b) (ha : a ≠ TO) (hb : b ≠ TO) (hb1 : b ≠ i1) (ha2 : a ≠ i2) (haz : a ≠ z) (hbz : b ≠ z) : ZipSep2 z TI TO i1 i2 [i1, a] [i2, b] where
  TIz := D.TIz
  TOz := D.TOz
  TITO := D.TITO
  TIi1 := D.TIi1
  TIi2 := D.TIi2
  mem1 := by simp
  mem2 := by simp
  zf1 := by simp only [List.mem_cons, List.not_mem_nil, or_false, not_or]; exact ⟨D.i1z.symm, haz.symm⟩
  zf2 := by simp only [List.mem_cons, List.not_mem_nil, or_false, not_or]; exact ⟨D.i2z.symm, hbz.symm⟩
  Tf1 := by simp only [List.mem_cons, List.not_mem_nil, or_false, not_or]; exact ⟨D.TOi1, ha.symm⟩
  Tf2 := by simp only [List.mem_cons, List.not_mem_nil, or_false, not_or]; exact ⟨D.TOi2, hb.symm⟩
  sep1_2 := by simp only [List.mem_cons, List.not_mem_nil, or_false, not_or]; exact ⟨D.i12, hb1.symm⟩
  sep2_1 := by simp only [List.mem_cons, List.not_mem_nil, or_false, not_or]; exact ⟨D.i12.symm, ha2.symm⟩
def StM (z TI TO i1 i2 a b : Addr) (i : Nat) (h : Heap) : Prop := IsZip h z TI TO .none ∧ IsPair h TI (.ref i1) (.ref i2) ∧ (∃ x y, IsPair h TO x y) ∧ h.IsTupleIter i1 a i ∧ h.IsListIter i2 b i
theorem in5 {c z TI TO i1 i2 : Addr} (h : c ∈ [z, TI, TO, i1, i2]) : c = z ∨ c = TI ∨ c = TO ∨ c = i1 ∨ c = i2 := by simpa using h
theorem turn_zipM {P : Program} {w : World} {K : PySem.W.Frag} {elts : List Expr} {kk : Nat} {tpos : Pos} {a b z TI TO i1 i2 : Addr} (D : ZipApart z TI TO i1 i2 a b) (S : ZipSep2 z TI TO i1 i2 [i1, a] [i2, b]) (hai : a ≠ i1) (hbi : b ≠ i2) :
    Turn P w K (.Tuple elts kk tpos) (ItzM K a b) [z, TI, TO, i1, i2] z (StM z TI TO i1 i2 a b) where
  mem := List.mem_cons_self ..
  obj := fun i h st c hc => by
    obtain ⟨q1, q2, ⟨x, y, q3⟩, ⟨o1, q4, _, q5⟩, ⟨o2, q6, _, q7⟩⟩ := st
    rcases in5 hc with e | e | e | e | e <;> subst e
    · exact ⟨_, q1, fun v e => nomatch e⟩
    · exact ⟨_, q2, fun v e => nomatch e⟩
    · exact ⟨_, q3, fun v e => nomatch e⟩
    · exact ⟨o1, q4, fun v e => by rw [q5] at e; cases e⟩
    · exact ⟨o2, q6, fun v e => by rw [q7] at e; cases e⟩
  keep := fun i h h' ⟨q1, q2, ⟨x, y, q3⟩, q4, q5⟩ k =>
    ⟨k z (by simp) _ q1, k TI (by simp) _ q2, ⟨x, y, k TO (by simp) _ q3⟩, q4.at fun o e => k i1 (by simp) o e, q5.at fun o e => k i2 (by simp) o e⟩
  item := by
    intro X hP hw hK hc i pins s σ H E I hf st hg
    subst hP hw hK
    obtain ⟨q1, q2, ⟨x0, y0, q3⟩, q4, q5⟩ := st
    obtain ⟨xs, ys, x, y, sx, sy, gx, gy⟩ := hg
    obtain ⟨its, rv, tp, _⟩ := I.tuple sx
    obtain ⟨jts, rw', lp, _⟩ := I.list sy
    obtain ⟨u, hu, ru⟩ := rv.get gx
    obtain ⟨v, hv, rv'⟩ := rw'.get gy
    have zl : z < s.heap.objs.size := Heap.lt_size q1
    have hi1 : i < its.toArray.size := by
      have := (List.getElem?_eq_some_iff.mp hu).1
      simpa using this
    have hi2 : i < jts.toArray.size := by
      have := (List.getElem?_eq_some_iff.mp hv).1
      simpa using this
    refine wpAny_pyNext_zipD2_item S (Draws.tuple (prog := X.prog) (w := X.w) (A := X.A.in1) (I.ok.hd hc) i1 a hai its.toArray) (Draws.list (prog := X.prog) (w := X.w) (A := X.A.in1) (I.ok.hd hc) i2 b hbi jts.toArray) q1 q2 q3 ⟨q4, tp⟩ ⟨q5, lp.isList⟩ hi1 hi2 fun u' v' h' tk e1 e2 z' TO' s1' s2' hT hsz hk => ?_
    have eu : u' = u := by
      rw [List.getElem?_toArray, hu] at e1
      exact (Option.some.inj e1).symm
    have ev : v' = v := by
      rw [List.getElem?_toArray, hv] at e2
      exact (Option.some.inj e2).symm
    subst eu ev
    refine ⟨_, rfl, wpAny_letOwnedTupleGo_zip (s := { s with heap := h', toks := tk }) z' fun h'' z'' sb => ?_⟩
    have hT2 := (sb.2 _ (Nat.ne_of_gt zl)).trans hT
    have new : ObjOk X.prog X.w (upd H s.heap.objs.size (.tup [x, y])) h'' s.heap.objs.size (.tup [x, y]) := ⟨by show 2 ≤ sizeLine; decide, [u', v'], .cons ru (.cons rv' .nil), ⟨_, hT2, rfl, _, rfl⟩⟩
    have hk2 : ∀ c o, c ∉ [z, TI, TO, i1, i2] → s.heap.get? c = some o → h''.get? c = some o := fun c o hb e => by
      simp only [List.mem_cons, List.not_mem_nil, or_false, not_or] at hb
      exact (sb.2 c hb.1).trans (hk c o hb.1 hb.2.2.1 hb.2.2.2.1 hb.2.2.2.2 e)
    have I1 : Inv X pins σ (upd H s.heap.objs.size (.tup [x, y])) { s with heap := h'', toks := tk } := I.turnedNew (t' := tk) (ch := [z, TI, TO, i1, i2]) hk2 hf (Nat.le_refl _) new
    refine ⟨.ref s.heap.objs.size, _, I1, rfl, ⟨s.heap.objs.size, x, y, rfl, I.hok.fresh (Nat.le_refl _), rfl, fun l hl => ?_, fun l hl => ?_⟩, ⟨z'', (sb.2 TI D.TIz).trans (hk TI _ D.TIz D.TITO D.TIi1 D.TIi2 q2), ⟨u', v', (sb.2 TO D.TOz).trans TO'⟩, s1'.1.at fun o e => (sb.2 i1 D.i1z).trans e, s2'.1.at fun o e => (sb.2 i2 D.i2z).trans e⟩, fun c hcm => ?_⟩
    · rw [I.tuple_inj hl sx]; exact gx
    · rw [I.list_inj hl sy]; exact gy
    · have cl : c < s.heap.objs.size := by
        obtain ⟨o1, d1, _⟩ := q4
        obtain ⟨o2, d2, _⟩ := q5
        rcases in5 hcm with e | e | e | e | e <;> rw [e]
        · exact zl
        · exact Heap.lt_size q2
        · exact Heap.lt_size q3
        · exact Heap.lt_size d1
        · exact Heap.lt_size d2
      rw [upd_ne (Nat.ne_of_lt cl)]
      exact (hf c hcm).1
  done := by
    intro X hP hw hK hc i pins s σ H E I hf st hg
    subst hP hw hK
    obtain ⟨q1, q2, ⟨x0, y0, q3⟩, q4, q5⟩ := st
    obtain ⟨xs, ys, sx, sy, gend⟩ := hg
    obtain ⟨its, rv, tp, _⟩ := I.tuple sx
    obtain ⟨jts, rw', lp, _⟩ := I.list sy
    have e1 := rv.length
    have e2 := rw'.length
    have hl1 : its.toArray.size = xs.length := by simp [e1]
    have hl2 : jts.toArray.size = ys.length := by simp [e2]
    refine wpAny_pyNext_zipD2_end S (Draws.tuple (prog := X.prog) (w := X.w) (A := X.A.in1) (I.ok.hd hc) i1 a hai its.toArray) (Draws.list (prog := X.prog) (w := X.w) (A := X.A.in1) (I.ok.hd hc) i2 b hbi jts.toArray) q1 q2 q3 ⟨q4, tp⟩ ⟨q5, lp.isList⟩ (by omega) (by omega) (by omega) fun h' tk hk => ⟨rfl, I.turnedL (t' := tk) (ch := [z, TI, TO, i1, i2]) (fun c o hb e => ?_) hf⟩
    simp only [List.mem_cons, List.not_mem_nil, or_false, not_or] at hb
    exact hk c o hb.1 hb.2.2.1 hb.2.2.2.1 hb.2.2.2.2 e
  self := fun A i s Q E st h => wpAny_pyIter_zip st.1 h
theorem walk_zipM {K : PySem.W.Frag} {a b : Addr} {xs ys : List V} {n : Nat} (hn : n = min xs.length ys.length) : Walk (ItzM K a b) n (fun H => SqT K H a xs ∧ SqL K H b ys) (YPair (fun i => xs[i]?) (fun i => ys[i]?)) := by
  refine ⟨fun i H hi ⟨qx, qy⟩ => ⟨xs, ys, xs[i]'(by omega), ys[i]'(by omega), qx, qy, List.getElem?_eq_getElem (by omega), List.getElem?_eq_getElem (by omega)⟩, fun H ⟨qx, qy⟩ => ⟨xs, ys, qx, qy, by omega⟩, fun i H v H' hi ⟨qx, qy⟩ y => ?_⟩
  obtain ⟨T, u, z, e1, e2, e3, e4, e5⟩ := y
  exact ⟨T, u, z, e1, e2, e3, e4 xs qx, e5 ys qy⟩
/-! its making -/
abbrev zmH1 (h : Heap) (a : Addr) : Heap := h.push { cls := .type "tuple_iterator", data := .fields #[.ref a, .int 0 0] }
abbrev zmH2 (h : Heap) (a b : Addr) : Heap := (zmH1 h a).push { cls := .type "list_iterator", data := .fields #[.ref b, .int 0 0] }
abbrev zmH3 (h : Heap) (a b : Addr) : Heap := (zmH2 h a b).push { cls := .type "tuple", data := .seq #[.ref h.objs.size, .ref (zmH1 h a).objs.size] }
abbrev zmH4 (h : Heap) (a b : Addr) : Heap := (zmH3 h a b).push { cls := .type "tuple", data := .seq #[.none, .none] }
abbrev zmH5 (h : Heap) (a b : Addr) : Heap := (zmH4 h a b).push { cls := .type "zip", data := .fields #[.none, .bool false, .bool false, .ref (zmH2 h a b).objs.size, .ref (zmH3 h a b).objs.size] }
theorem meets_zipM (a b : Addr) (xs ys : Array Value) :
    Meets (Builtin.«zip.__new__» ⟨[.type "zip", .ref a, .ref b], []⟩) (fun _ R s => s.heap.IsTuple a xs ∧ s.heap.IsList b ys ∧ R (.ok (.ret (.ref (zmH4 s.heap a b).objs.size))) { s with heap := zmH5 s.heap a b }) :=
  .of_wp fun prog w A R s h => by
    obtain ⟨hp, g, d, tk, os⟩ := s
    obtain ⟨ha, hb, h⟩ := h
    have hsub := sub_zip
    have hA : Heap.IsTuple (Shared.heap ⟨hp, g, d, tk, os⟩) a xs := ha
    have hB : Heap.IsList (Shared.heap ⟨hp.push { cls := .type "tuple_iterator", data := .fields #[.ref a, .int 0 0] }, g, d, tk, os⟩) b ys := Heap.IsList.push hb _
    wp_walk using wpAny_pyIter_tuple hA, wpAny_pyIter_list hB
    exact ⟨_, rfl, h⟩
section
variable {prog : Program} {w : World} {A : Around} {E : Value → Shared → Prop} {s : Shared}
theorem call_zipM {a b : Addr} {xs ys : Array Value} {Q : Value → Shared → Prop} (ha : s.heap.IsTuple a xs) (hb : s.heap.IsList b ys)
    (h : ∀ h', StM (s.heap.objs.size + 4) (s.heap.objs.size + 2) (s.heap.objs.size + 3) s.heap.objs.size (s.heap.objs.size + 1) a b 0 h' → (∀ c o, s.heap.get? c = some o → h'.get? c = some o) → Q (.ref (s.heap.objs.size + 4)) { s with heap := h' }) :
    wpAny (model prog w) A (call (.type "zip") [.ref a, .ref b]) Q E s := by
  refine callType_new F.called_zip (by decide) (F.typeCall_zip_2 _ _) (F.newCall_zip_2 _ _) (fun obj => F.args_object_init_3 obj _ _) F.entry_zip_new (meets_zipM a b xs ys) ⟨ha, hb, ?_⟩
  have n1 : (zmH1 s.heap a).objs.size = s.heap.objs.size + 1 := Heap.size_push _ _
  have n2 : (zmH2 s.heap a b).objs.size = s.heap.objs.size + 2 := (Heap.size_push _ _).trans (by rw [n1])
  have n3 : (zmH3 s.heap a b).objs.size = s.heap.objs.size + 3 := (Heap.size_push _ _).trans (by rw [n2])
  have n4 : (zmH4 s.heap a b).objs.size = s.heap.objs.size + 4 := (Heap.size_push _ _).trans (by rw [n3])
  have k5 : (zmH5 s.heap a b).get? (zmH4 s.heap a b).objs.size = some _ := Heap.get?_push_size _ rfl
  have k4 : (zmH5 s.heap a b).get? (zmH3 s.heap a b).objs.size = some _ := Heap.get?_push_of_some _ (Heap.get?_push_size _ rfl)
  have k3 : (zmH5 s.heap a b).get? (zmH2 s.heap a b).objs.size = some _ := Heap.get?_push_of_some _ (Heap.get?_push_of_some _ (Heap.get?_push_size _ rfl))
  have k2 : (zmH5 s.heap a b).get? (zmH1 s.heap a).objs.size = some _ := Heap.get?_push_of_some _ (Heap.get?_push_of_some _ (Heap.get?_push_of_some _ (Heap.get?_push_size _ rfl)))
  have k1 : (zmH5 s.heap a b).get? s.heap.objs.size = some _ := Heap.get?_push_of_some _ (Heap.get?_push_of_some _ (Heap.get?_push_of_some _ (Heap.get?_push_of_some _ (Heap.get?_push_size _ rfl))))
  show _ ∧ _
  rw [n2, n3, n4] at k5
  rw [n3] at k4
  rw [n1, n2] at k3
  rw [n1] at k2
  rw [n4]
  have kept : ∀ c o, s.heap.get? c = some o → (zmH5 s.heap a b).get? c = some o := fun c o e => by
    iterate 5 refine Heap.get?_push_of_some _ ?_
    exact e
  exact ⟨⟨_, k5, rfl⟩, h _ ⟨k5, k3, ⟨_, _, k4⟩, ⟨_, k1, rfl, rfl⟩, ⟨_, k2, rfl, rfl⟩⟩ kept⟩
end
def iZipM (K : PySem.W.Frag) (ta : TA) : TI := fun σ H R => ta σ H fun vs H1 => ∃ a b xs ys, vs = [.ref a, .ref b] ∧ SqT K H1 a xs ∧ SqL K H1 b ys ∧ R (ItzM K a b) H1
theorem ne5 {n c : Nat} (h : c < n) : c ≠ n ∧ c ≠ n + 1 ∧ c ≠ n + 3 ∧ c ≠ n + 4 := by omega
theorem pi_zipM {X : Cx} {K : PySem.W.Frag} (hK : X.K = K) {e e2 : Expr} {ta : TA} {p pos tpos : Pos} {elts : List Expr} {kk : Nat} (hg : Gl X "zip") (hm : X.mg "zip" = none) (ha : PA X [e, e2] ta) (hs : starEach [e, e2] X.env = (false, eval e X.env) :: starEach [e2] X.env := by rfl)
    (hpl : (backTo pos (starEach [e2] X.env)).any (·.1) = false := by rfl) : PI X (.Tuple elts kk tpos) (.Call (.Name "zip" p) [e, e2] [] pos) (iZipM K ta) := by
  subst hK
  refine ⟨fun pins s σ H R I h => ?_⟩
  refine Call_ (ld_blt I hg hm PyProof.Rows.boot_zip (PyProof.Rows.callWith_type1 (thn (ha.run pos pins s σ H _ I h) fun us s1 ⟨vs, H1, I1, r1, q1⟩ => ?_) hs hpl))
  obtain ⟨a, b, xs, ys, rfl, sx, sy, q⟩ := q1
  cases r1 with
  | cons r2 r3 =>
    cases r3 with
    | cons r4 r5 =>
      cases r5
      cases r2
      cases r4
      obtain ⟨its, rv, tp, _⟩ := I1.tuple sx
      obtain ⟨jts, rw', lp, _⟩ := I1.list sy
      obtain ⟨o1, d1, _⟩ := id tp
      have al := ne5 (Heap.lt_size d1)
      have bl := ne5 lp.lt
      have D := PySem.W.ktu_apart s1.heap.objs.size a b (Heap.lt_size d1) lp.lt
      refine call_zipM (show s1.heap.IsTuple a its.toArray from tp) lp.isList fun h' st hk => wpAny_pyIter_zip st.1 ?_
      have I2 : Inv X pins σ H1 { s1 with heap := h' } := I1.kept (t' := s1.toks) hk
      refine ⟨s1.heap.objs.size + 4, [s1.heap.objs.size + 4, s1.heap.objs.size + 2, s1.heap.objs.size + 3, s1.heap.objs.size, s1.heap.objs.size + 1], _, _, H1, rfl, I2, turn_zipM D (apart_sep D al.2.2.1 bl.2.2.1 bl.1 al.2.1 al.2.2.2 bl.2.2.2) al.1 bl.2.1, st, fun c hc => ?_, q⟩
      have cl : s1.heap.objs.size ≤ c := by
        rcases in5 hc with z | z | z | z | z <;> rw [z] <;> first | exact Nat.le_refl _ | exact Nat.le_add_right _ _
      exact I1.fpOk cl (I1.hok.fresh cl)
end MB

set_option maxHeartbeats 4000000
namespace MB
open PySem PySem.Spec PyProof.Rows L2
/-! ### a tuple from its end: t[::-1] -/
theorem adj_rev (n : Nat) : Builtin.Slice.sliceAdjust none none (-1) (n : Int) = ((n : Int) - 1, -1) := rfl
theorem places_rev (n : Nat) : Builtin.Slice.slicePlaces ((n : Int) - 1) (-1) (-1) = n := by
  unfold Builtin.Slice.slicePlaces
  have h1 : ¬ ((-1 : Int) > 0) := by omega
  simp only [h1, if_false]
  have h2 : -(-1 : Int) = 1 := by decide
  rw [h2, Int.ediv_one]
  split <;> omega
theorem pick_rev (xs : Array Value) : ((List.range xs.size).filterMap fun (k : Nat) => xs[(((xs.size : Int) - 1) + (k : Int) * (-1)).toNat]?).toArray = xs.toList.reverse.toArray := by
  congr 1
  have key : ∀ k, k < xs.size → xs[(((xs.size : Int) - 1) + (k : Int) * (-1)).toNat]? = some (xs.toList.reverse.getD k .none) := fun k hk => by
    have e : (((xs.size : Int) - 1) + (k : Int) * (-1)).toNat = xs.size - 1 - k := by omega
    have hl : k < xs.toList.reverse.length := by simpa using hk
    rw [e, List.getD_eq_getElem?_getD, List.getElem?_eq_getElem hl, Option.getD_some, List.getElem_reverse]
    rw [Array.getElem?_eq_getElem (by omega)]
    simp
  have h2 : (List.range xs.size).filterMap (fun (k : Nat) => xs[(((xs.size : Int) - 1) + (k : Int) * (-1)).toNat]?) = (List.range xs.size).map fun k => xs.toList.reverse.getD k .none := by
    have aux : ∀ (l : List Nat), (∀ k, k ∈ l → k < xs.size) → l.filterMap (fun (k : Nat) => xs[(((xs.size : Int) - 1) + (k : Int) * (-1)).toNat]?) = l.map fun k => xs.toList.reverse.getD k .none := by
      intro l
      induction l with
      | nil => intro _; rfl
      | cons a l ih =>
        intro h
        rw [List.filterMap_cons, key a (h a (List.mem_cons_self ..)), ih fun k hk => h k (List.mem_cons_of_mem _ hk)]
        rfl
    exact aux _ fun k hk => List.mem_range.mp hk
  rw [h2]
  refine List.ext_getElem (by simp) fun k h3 h4 => ?_
  rw [List.getElem_map, List.getElem_range, List.getD_eq_getElem?_getD, List.getElem?_eq_getElem h4, Option.getD_some]
section
variable {prog : Program} {w : World} {A : Around} {E : Value → Shared → Prop} {s : Shared}
theorem applied_rev {sl : Addr} {vl vu vs : Value} {n : Nat} {Q : Int × Int × Nat → Shared → Prop} (hs : s.heap.IsSliceOf sl vl vu vs) (pl : IsPart vl none) (pu : IsPart vu none) (ps : IsPart vs (some (-1)))
    (h : Q ((n : Int) - 1, -1, n) s) : wpAny (model prog w) A (Builtin.Slice.sliceApplied (.ref sl) (pure (n : Int))) Q E s := by
  obtain ⟨os, hos, hcs, hds⟩ := id hs
  unfold Builtin.Slice.sliceApplied Builtin.Slice.sliceFields
  refine wpAny_bind (wpAny_bind (wpAny_field hos hds (x := vl) rfl (wpAny_bind (wpAny_field hos hds (x := vu) rfl (wpAny_bind (wpAny_field hos hds (x := vs) rfl (wpAny_pure ?_)))))))
  refine wpAny_bind (HT.slicePart_ ps ?_)
  show wpAny _ _ (if ((-1 : Int) == 0) = true then _ else _) _ _ s
  rw [if_neg (by decide)]
  refine wpAny_bind (HT.slicePart_ pl (wpAny_bind (HT.slicePart_ pu (wpAny_bind (wpAny_pure ?_)))))
  show wpAny _ _ (match Builtin.Slice.sliceAdjust none none (-1) (n : Int) with | (lo, hi) => pure (lo, (-1 : Int), Builtin.Slice.slicePlaces lo hi (-1))) _ _ s
  rw [adj_rev]
  show wpAny _ _ (pure ((n : Int) - 1, (-1 : Int), Builtin.Slice.slicePlaces ((n : Int) - 1) (-1) (-1))) _ _ s
  rw [places_rev]
  exact wpAny_pure h
theorem getItem_rev {t sl : Addr} {items : Array Value} {vl vu vs : Value} {Q : Value → Shared → Prop} (ht : IsTup s.heap t items) (hs : s.heap.IsSliceOf sl vl vu vs) (pl : IsPart vl none) (pu : IsPart vu none) (ps : IsPart vs (some (-1)))
    (h : Q (.ref s.heap.objs.size) { s with heap := s.heap.push { cls := .type "tuple", data := .seq items.toList.reverse.toArray } }) (hsz : items.size ≤ sizeLine) : wpAny (model prog w) A (getItem (.ref t) (.ref sl)) Q E s := by
  have hok : sizeOk (.seq items.toList.reverse.toArray) := by
    show items.toList.reverse.toArray.size ≤ sizeLine
    simpa using hsz
  obtain ⟨os, hos, hcs, hds⟩ := id hs
  have hTs : s.TypeIs (.ref sl) "slice" := ⟨os, hos, hcs⟩
  unfold getItem
  (try with_reducible refine wpAny_holding ?_)
  (first | refine wpAny_bind (wpAny_pure ?_) | skip)
  refine wpAny_bind (wpAny_sequenceKey ht.typeIs (by decide) (wpAny_bind (wpAny_callSpecial?_slot (name := Str.ofString "__getitem__") ht.typeIs PyProof.Rows.slot_tuple_getitem (wpAny_call_entry PyProof.Rows.slot_tuple_getitem ht.typeIs entry_tuple_getitem ?_ (args_tuple_getitem _ _)))))
  show wpAny _ _ (Builtin.Tuple.tupleItemsOf (.ref t) >>= _) _ _ s
  refine wpAny_bind (tupleItemsOf_ ht (wpAny_bind (wpAny_typeOf hTs ?_)))
  rw [if_pos (by decide)]
  refine wpAny_bind (applied_rev hs pl pu ps ?_)
  show wpAny _ _ (if (((items.size : Int) - 1) == 0 && (-1 : Int) == 1 && items.size == items.size) = true then _ else _) _ _ s
  rw [if_neg (by simp), pick_rev]
  exact wpAny_bind (m := Builtin.Tuple.tupleExact _) (wpAny_newObj_type (wpAny_pure ⟨_, rfl, wpAny_pure h⟩) hok)
end
def tRevT (K : PySem.W.Frag) (te : TE) : TE := fun σ H Q => te σ H fun x H1 => ∃ a xs, x = .ref a ∧ SqT K H1 a xs ∧ ∀ p, H1 p = none → Q (.ref p) (upd H1 p (.tup xs.reverse))
theorem pe_revT {X : Cx} {K : PySem.W.Frag} (hK : X.K = K) {e : Expr} {te : TE} {k : Nat} {p1 p2 p3 pos : Pos} (he : PE X e te) : PE X (.Subscript e (.Slice none none (some (.UnaryOp .USub (.Constant (.int 1) k p1) p2)) p3) pos) (tRevT K te) := by
  subst hK
  refine ⟨fun pins s σ H Q I h => ?_⟩
  refine Subscript_ (thn (he.run pins s σ H _ I h) fun v s1 ⟨x, H1, I1, r1, q1⟩ => ?_)
  obtain ⟨a, xs, rfl, hx, q⟩ := q1
  cases r1
  have hst : PO X (some (.UnaryOp .USub (.Constant (.int 1) k p1) p2)) (tPart (tUn (rU fun i => .int (-i)) (tC (.int 1)))) := po_some (pe_un un_neg pe_int)
  refine wpAny_Slice (thn (po_none.run pins s1 σ H1 (fun o H2 => o = none ∧ H2 = H1) I1 ⟨rfl, rfl⟩) fun vl s2 ⟨lo, H2, I2, pl, elo, eH⟩ => ?_)
  cases elo; cases eH
  refine thn (po_none.run pins s2 σ H1 (fun o H3 => o = none ∧ H3 = H1) I2 ⟨rfl, rfl⟩) fun vu s3 ⟨hi, H3, I3, pu, ehi, eH⟩ => ?_
  cases ehi; cases eH
  refine thn (hst.run pins s3 σ H1 (fun o H4 => o = some (-1) ∧ H4 = H1) I3 ⟨1, rfl, -1, rfl, rfl, rfl⟩) fun vs s4 ⟨st, H4, I4, ps, est, eH⟩ => ?_
  cases est; cases eH
  have I5 : Inv X pins σ H1 { s4 with heap := s4.heap.push { cls := .type "slice", data := .fields #[vl, vu, vs] } } := I4.kept (t' := s4.toks) fun b ob e => Heap.get?_push_of_some _ e
  obtain ⟨its, r, ht, hz⟩ := I5.tuple hx
  have hlen := r.length
  show wpAny (model X.prog X.w) X.A (subscriptTail e (.Slice none none (some (.UnaryOp .USub (.Constant (.int 1) k p1) p2)) p3) (.ref a) (.ref s4.heap.objs.size)) (EP X pins σ Q) X.xe { s4 with heap := s4.heap.push { cls := .type "slice", data := .fields #[vl, vu, vs] } }
  refine tail_any (ops := [.ref a, .ref s4.heap.objs.size]) ht.typeIs (PyProof.Rows.slot_tuple_getitem.lookup) ?_ (by with_unfolding_all rfl)
  refine getItem_rev ht (Heap.IsSliceOf.new _ vl vu vs) pl pu ps ?_ (by rw [List.size_toArray]; omega)
  refine ⟨.ref _, _, I5.laid (t' := s4.toks) (o := .tup xs.reverse) (fun b ob e => Heap.get?_push_of_some _ e) (Nat.le_refl _) ?_, rfl, q _ (I5.hok.fresh (Nat.le_refl _))⟩
  exact ⟨by rw [List.length_reverse]; exact hz, its.reverse, r.reverse, IsTup.new _ _⟩
end MB

set_option maxHeartbeats 4000000
namespace MB
open PySem PySem.Spec PyProof.Rows L2
def topS (i : Nat) : Stmt := PySem.Challenge.pw_mergebudget_k83_whole_mirror_keeps_work.main.body.getD i (.Pass ⟨0, 0, 0, 0⟩)
abbrev s_is_int : Stmt := topS 8
abbrev N_is_int : List Str := ["value"]
theorem sc_is_int : FnScope N_is_int ["value"] (defScope s_is_int) := ⟨rfl, rfl, rfl, by decide +kernel, rfl, by decide +kernel, by decide +kernel⟩
abbrev s_is_count : Stmt := topS 9
abbrev N_is_count : List Str := ["value"]
theorem sc_is_count : FnScope N_is_count ["value"] (defScope s_is_count) := ⟨rfl, rfl, rfl, by decide +kernel, rfl, by decide +kernel, by decide +kernel⟩
abbrev s_is_count_up_to : Stmt := topS 10
abbrev N_is_count_up_to : List Str := ["value", "most"]
theorem sc_is_count_up_to : FnScope N_is_count_up_to ["value", "most"] (defScope s_is_count_up_to) := ⟨rfl, rfl, rfl, by decide +kernel, rfl, by decide +kernel, by decide +kernel⟩
abbrev s_are_loads : Stmt := topS 11
abbrev N_are_loads : List Str := ["value", "fewest", "most", "load"]
theorem sc_are_loads : FnScope N_are_loads ["value", "fewest", "most"] (defScope s_are_loads) := ⟨rfl, rfl, rfl, by decide +kernel, rfl, by decide +kernel, by decide +kernel⟩
abbrev s_check_sizes : Stmt := topS 12
abbrev N_check_sizes : List Str := ["sizes", "fewest", "most"]
theorem sc_check_sizes : FnScope N_check_sizes ["sizes", "fewest", "most"] (defScope s_check_sizes) := ⟨rfl, rfl, rfl, by decide +kernel, rfl, by decide +kernel, by decide +kernel⟩
abbrev s_check_reads : Stmt := topS 13
abbrev N_check_reads : List Str := ["reads", "flushes"]
theorem sc_check_reads : FnScope N_check_reads ["reads", "flushes"] (defScope s_check_reads) := ⟨rfl, rfl, rfl, by decide +kernel, rfl, by decide +kernel, by decide +kernel⟩
abbrev s_is_schedule : Stmt := topS 16
abbrev N_is_schedule : List Str := ["value", "runs", "merge"]
theorem sc_is_schedule : FnScope N_is_schedule ["value"] (defScope s_is_schedule) := ⟨rfl, rfl, rfl, by decide +kernel, rfl, by decide +kernel, by decide +kernel⟩
abbrev s_stacks : Stmt := topS 17
abbrev N_stacks : List Str := ["schedule", "stack", "result", "flush", "merge"]
theorem sc_stacks : FnScope N_stacks ["schedule"] (defScope s_stacks) := ⟨rfl, rfl, rfl, by decide +kernel, rfl, by decide +kernel, by decide +kernel⟩
abbrev s_stack_after : Stmt := topS 18
abbrev N_stack_after : List Str := ["stack", "flush", "merge", "kept", "start"]
theorem sc_stack_after : FnScope N_stack_after ["stack", "flush", "merge"] (defScope s_stack_after) := ⟨rfl, rfl, rfl, by decide +kernel, rfl, by decide +kernel, by decide +kernel⟩
abbrev s_writes : Stmt := topS 19
abbrev N_writes : List Str := ["schedule", "history", "counts", "stack", "start", "stop", "flush"]
theorem sc_writes : FnScope N_writes ["schedule"] (defScope s_writes) := ⟨rfl, rfl, rfl, by decide +kernel, rfl, by decide +kernel, by decide +kernel⟩
abbrev s_run_counts : Stmt := topS 20
abbrev N_run_counts : List Str := ["schedule", "stack"]
theorem sc_run_counts : FnScope N_run_counts ["schedule"] (defScope s_run_counts) := ⟨rfl, rfl, rfl, by decide +kernel, rfl, by decide +kernel, by decide +kernel⟩
abbrev s_write_work : Stmt := topS 22
abbrev N_write_work : List Str := ["schedule", "sizes", "counts"]
theorem sc_write_work : FnScope N_write_work ["schedule", "sizes"] (defScope s_write_work) := ⟨rfl, rfl, rfl, by decide +kernel, rfl, by decide +kernel, by decide +kernel⟩
abbrev s_weighted : Stmt := topS 23
abbrev N_weighted : List Str := ["loads", "counts", "load", "count"]
theorem sc_weighted : FnScope N_weighted ["loads", "counts"] (defScope s_weighted) := ⟨rfl, rfl, rfl, by decide +kernel, rfl, by decide +kernel, by decide +kernel⟩
abbrev s_read_work : Stmt := topS 24
abbrev N_read_work : List Str := ["schedule", "reads", "counts"]
theorem sc_read_work : FnScope N_read_work ["schedule", "reads"] (defScope s_read_work) := ⟨rfl, rfl, rfl, by decide +kernel, rfl, by decide +kernel, by decide +kernel⟩
abbrev s_work : Stmt := topS 25
abbrev N_work : List Str := ["schedule", "sizes", "reads"]
theorem sc_work : FnScope N_work ["schedule", "sizes", "reads"] (defScope s_work) := ⟨rfl, rfl, rfl, by decide +kernel, rfl, by decide +kernel, by decide +kernel⟩
abbrev s_is_tree : Stmt := topS 28
abbrev N_is_tree : List Str := ["value", "parent"]
theorem sc_is_tree : FnScope N_is_tree ["value"] (defScope s_is_tree) := ⟨rfl, rfl, rfl, by decide +kernel, rfl, by decide +kernel, by decide +kernel⟩
abbrev s_is_numbered_in_order : Stmt := topS 29
abbrev N_is_numbered_in_order : List Str := ["parents", "subtrees", "start", "stop", "parent", "roots", "root", "node"]
theorem sc_is_numbered_in_order : FnScope N_is_numbered_in_order ["parents"] (defScope s_is_numbered_in_order) := ⟨rfl, rfl, rfl, by decide +kernel, rfl, by decide +kernel, by decide +kernel⟩
abbrev s_tree_of : Stmt := topS 30
abbrev N_tree_of : List Str := ["schedule", "counts", "parents", "intervals", "start", "stop", "runs", "parent", "root", "flush"]
theorem sc_tree_of : FnScope N_tree_of ["schedule"] (defScope s_tree_of) := ⟨rfl, rfl, rfl, by decide +kernel, rfl, by decide +kernel, by decide +kernel⟩
abbrev s_schedule_of : Stmt := topS 31
abbrev N_schedule_of : List Str := ["tree", "merges", "runs_before", "left", "right", "runs_after"]
theorem sc_schedule_of : FnScope N_schedule_of ["tree"] (defScope s_schedule_of) := ⟨rfl, rfl, rfl, by decide +kernel, rfl, by decide +kernel, by decide +kernel⟩
abbrev s_edges : Stmt := topS 32
abbrev N_edges : List Str := ["tree", "node"]
theorem sc_edges : FnScope N_edges ["tree"] (defScope s_edges) := ⟨rfl, rfl, rfl, by decide +kernel, rfl, by decide +kernel, by decide +kernel⟩
abbrev s_edges_above : Stmt := topS 33
abbrev N_edges_above : List Str := ["tree", "node", "left", "right", "child"]
theorem sc_edges_above : FnScope N_edges_above ["tree", "node"] (defScope s_edges_above) := ⟨rfl, rfl, rfl, by decide +kernel, rfl, by decide +kernel, by decide +kernel⟩
abbrev s_mirror : Stmt := topS 34
abbrev N_mirror : List Str := ["schedule", "tree", "last", "parent"]
theorem sc_mirror : FnScope N_mirror ["schedule"] (defScope s_mirror) := ⟨rfl, rfl, rfl, by decide +kernel, rfl, by decide +kernel, by decide +kernel⟩
abbrev s_mirrored_node : Stmt := topS 35
abbrev N_mirrored_node : List Str := ["node", "last"]
theorem sc_mirrored_node : FnScope N_mirrored_node ["node", "last"] (defScope s_mirrored_node) := ⟨rfl, rfl, rfl, by decide +kernel, rfl, by decide +kernel, by decide +kernel⟩
abbrev s_L_pot : Stmt := topS 37
abbrev N_L_pot : List Str := ["_law_script", "_law_k", "_law_cell", "_law_far"]
theorem sc_L_pot : FnScope N_L_pot ["_law_script", "_law_k"] (defScope s_L_pot) := ⟨rfl, rfl, rfl, by decide +kernel, rfl, by decide +kernel, by decide +kernel⟩
abbrev s_L_take : Stmt := topS 38
abbrev N_L_take : List Str := ["_law_pot_here", "_law_wide", "_law_digit", "_law_primes", "_law_prime", "_law_drawn"]
theorem sc_L_take : FnScope N_L_take ["_law_pot_here", "_law_wide"] (defScope s_L_take) := ⟨rfl, rfl, rfl, by decide +kernel, rfl, by decide +kernel, by decide +kernel⟩
abbrev s_L_of : Stmt := topS 39
abbrev N_L_of : List Str := ["_law_pot_here", "_law_some"]
theorem sc_L_of : FnScope N_L_of ["_law_pot_here", "_law_some"] (defScope s_L_of) := ⟨rfl, rfl, rfl, by decide +kernel, rfl, by decide +kernel, by decide +kernel⟩
abbrev s_L_plans : Stmt := topS 40
abbrev N_L_plans : List Str := ["_law_count", "_law_found", "_law_turn", "_law_longer", "_law_plan", "_law_runs", "_law_folded"]
theorem sc_L_plans : FnScope N_L_plans ["_law_count"] (defScope s_L_plans) := ⟨rfl, rfl, rfl, by decide +kernel, rfl, by decide +kernel, by decide +kernel⟩
abbrev s_L_drawn_plan : Stmt := topS 41
abbrev N_L_drawn_plan : List Str := ["_law_pot_here", "_law_count", "_law_plan", "_law_runs", "_law_style", "_law_turn", "_law_folded"]
theorem sc_L_drawn_plan : FnScope N_L_drawn_plan ["_law_pot_here", "_law_count"] (defScope s_L_drawn_plan) := ⟨rfl, rfl, rfl, by decide +kernel, rfl, by decide +kernel, by decide +kernel⟩
abbrev s_L_counted : Stmt := topS 42
abbrev N_L_counted : List Str := ["_law_plan", "_law_held", "_law_times", "_law_counts", "_law_i", "_law_folded", "_law_inside", "_law_turn", "_law_flush_here"]
theorem sc_L_counted : FnScope N_L_counted ["_law_plan"] (defScope s_L_counted) := ⟨rfl, rfl, rfl, by decide +kernel, rfl, by decide +kernel, by decide +kernel⟩
abbrev s_L_load : Stmt := topS 43
abbrev N_L_load : List Str := ["_law_pot_here", "_law_count", "_law_wide", "_law_style", "_law_level", "_law_found", "_law_turn", "_law_some"]
theorem sc_L_load : FnScope N_L_load ["_law_pot_here", "_law_count", "_law_wide"] (defScope s_L_load) := ⟨rfl, rfl, rfl, by decide +kernel, rfl, by decide +kernel, by decide +kernel⟩
abbrev s_L_within : Stmt := topS 44
abbrev N_L_within : List Str := ["_law_plan", "_law_k", "_law_c", "_law_times", "_law_counts"]
theorem sc_L_within : FnScope N_L_within ["_law_plan", "_law_k", "_law_c"] (defScope s_L_within) := ⟨rfl, rfl, rfl, by decide +kernel, rfl, by decide +kernel, by decide +kernel⟩
abbrev s_L_one_right : Stmt := topS 45
abbrev N_L_one_right : List Str := ["_law_plan", "_law_bulk", "_law_looks", "_law_other", "_law_swapped", "_law_turned"]
theorem sc_L_one_right : FnScope N_L_one_right ["_law_plan", "_law_bulk", "_law_looks"] (defScope s_L_one_right) := ⟨rfl, rfl, rfl, by decide +kernel, rfl, by decide +kernel, by decide +kernel⟩
abbrev s_L_right : Stmt := topS 46
abbrev N_L_right : List Str := ["_law_pot_here", "_law_count", "_law_bulk", "_law_looks", "_law_plans_here", "_law_k", "_law_c", "_law_fits", "_law_plan", "_law_turn"]
theorem sc_L_right : FnScope N_L_right ["_law_pot_here"] (defScope s_L_right) := ⟨rfl, rfl, rfl, by decide +kernel, rfl, by decide +kernel, by decide +kernel⟩
abbrev s_law : Stmt := topS 47
abbrev N_law : List Str := ["_law_script", "_law_k"]
theorem sc_law : FnScope N_law ["_law_script"] (defScope s_law) := ⟨rfl, rfl, rfl, by decide +kernel, rfl, by decide +kernel, by decide +kernel⟩
structure Tx (K : PySem.W.Frag) (mg : Str → Option Value) where
  a_is_int : Addr
  fd_is_int : FuncData
  f_is_int : Fun K "is_int" "is_int" s_is_int a_is_int fd_is_int
  g_is_int : mg "is_int" = some (.ref a_is_int)
  bd_is_int : Binds K fd_is_int ["value"] []
  a_is_count : Addr
  fd_is_count : FuncData
  f_is_count : Fun K "is_count" "is_count" s_is_count a_is_count fd_is_count
  g_is_count : mg "is_count" = some (.ref a_is_count)
  bd_is_count : Binds K fd_is_count ["value"] []
  a_is_count_up_to : Addr
  fd_is_count_up_to : FuncData
  f_is_count_up_to : Fun K "is_count_up_to" "is_count_up_to" s_is_count_up_to a_is_count_up_to fd_is_count_up_to
  g_is_count_up_to : mg "is_count_up_to" = some (.ref a_is_count_up_to)
  bd_is_count_up_to : Binds K fd_is_count_up_to ["value", "most"] []
  a_are_loads : Addr
  fd_are_loads : FuncData
  f_are_loads : Fun K "are_loads" "are_loads" s_are_loads a_are_loads fd_are_loads
  g_are_loads : mg "are_loads" = some (.ref a_are_loads)
  bd_are_loads : Binds K fd_are_loads ["value", "fewest", "most"] []
  a_check_sizes : Addr
  fd_check_sizes : FuncData
  f_check_sizes : Fun K "check_sizes" "check_sizes" s_check_sizes a_check_sizes fd_check_sizes
  g_check_sizes : mg "check_sizes" = some (.ref a_check_sizes)
  bd_check_sizes : Binds K fd_check_sizes ["sizes", "fewest", "most"] []
  a_check_reads : Addr
  fd_check_reads : FuncData
  f_check_reads : Fun K "check_reads" "check_reads" s_check_reads a_check_reads fd_check_reads
  g_check_reads : mg "check_reads" = some (.ref a_check_reads)
  bd_check_reads : Binds K fd_check_reads ["reads", "flushes"] []
  a_is_schedule : Addr
  fd_is_schedule : FuncData
  f_is_schedule : Fun K "is_schedule" "is_schedule" s_is_schedule a_is_schedule fd_is_schedule
  g_is_schedule : mg "is_schedule" = some (.ref a_is_schedule)
  bd_is_schedule : Binds K fd_is_schedule ["value"] []
  a_stacks : Addr
  fd_stacks : FuncData
  f_stacks : Fun K "stacks" "stacks" s_stacks a_stacks fd_stacks
  g_stacks : mg "stacks" = some (.ref a_stacks)
  bd_stacks : Binds K fd_stacks ["schedule"] []
  a_stack_after : Addr
  fd_stack_after : FuncData
  f_stack_after : Fun K "stack_after" "stack_after" s_stack_after a_stack_after fd_stack_after
  g_stack_after : mg "stack_after" = some (.ref a_stack_after)
  bd_stack_after : Binds K fd_stack_after ["stack", "flush", "merge"] []
  a_writes : Addr
  fd_writes : FuncData
  f_writes : Fun K "writes" "writes" s_writes a_writes fd_writes
  g_writes : mg "writes" = some (.ref a_writes)
  bd_writes : Binds K fd_writes ["schedule"] []
  a_run_counts : Addr
  fd_run_counts : FuncData
  f_run_counts : Fun K "run_counts" "run_counts" s_run_counts a_run_counts fd_run_counts
  g_run_counts : mg "run_counts" = some (.ref a_run_counts)
  bd_run_counts : Binds K fd_run_counts ["schedule"] []
  a_write_work : Addr
  fd_write_work : FuncData
  f_write_work : Fun K "write_work" "write_work" s_write_work a_write_work fd_write_work
  g_write_work : mg "write_work" = some (.ref a_write_work)
  bd_write_work : Binds K fd_write_work ["schedule", "sizes"] []
  a_weighted : Addr
  fd_weighted : FuncData
  f_weighted : Fun K "weighted" "weighted" s_weighted a_weighted fd_weighted
  g_weighted : mg "weighted" = some (.ref a_weighted)
  bd_weighted : Binds K fd_weighted ["loads", "counts"] []
  a_read_work : Addr
  fd_read_work : FuncData
  f_read_work : Fun K "read_work" "read_work" s_read_work a_read_work fd_read_work
  g_read_work : mg "read_work" = some (.ref a_read_work)
  bd_read_work : Binds K fd_read_work ["schedule", "reads"] []
  a_work : Addr
  fd_work : FuncData
  f_work : Fun K "work" "work" s_work a_work fd_work
  g_work : mg "work" = some (.ref a_work)
  bd_work : Binds K fd_work ["schedule", "sizes", "reads"] []
  a_is_tree : Addr
  fd_is_tree : FuncData
  f_is_tree : Fun K "is_tree" "is_tree" s_is_tree a_is_tree fd_is_tree
  g_is_tree : mg "is_tree" = some (.ref a_is_tree)
  bd_is_tree : Binds K fd_is_tree ["value"] []
  a_is_numbered_in_order : Addr
  fd_is_numbered_in_order : FuncData
  f_is_numbered_in_order : Fun K "is_numbered_in_order" "is_numbered_in_order" s_is_numbered_in_order a_is_numbered_in_order fd_is_numbered_in_order
  g_is_numbered_in_order : mg "is_numbered_in_order" = some (.ref a_is_numbered_in_order)
  bd_is_numbered_in_order : Binds K fd_is_numbered_in_order ["parents"] []
  a_tree_of : Addr
  fd_tree_of : FuncData
  f_tree_of : Fun K "tree_of" "tree_of" s_tree_of a_tree_of fd_tree_of
  g_tree_of : mg "tree_of" = some (.ref a_tree_of)
  bd_tree_of : Binds K fd_tree_of ["schedule"] []
  a_schedule_of : Addr
  fd_schedule_of : FuncData
  f_schedule_of : Fun K "schedule_of" "schedule_of" s_schedule_of a_schedule_of fd_schedule_of
  g_schedule_of : mg "schedule_of" = some (.ref a_schedule_of)
  bd_schedule_of : Binds K fd_schedule_of ["tree"] []
  a_edges : Addr
  fd_edges : FuncData
  f_edges : Fun K "edges" "edges" s_edges a_edges fd_edges
  g_edges : mg "edges" = some (.ref a_edges)
  bd_edges : Binds K fd_edges ["tree"] []
  a_edges_above : Addr
  fd_edges_above : FuncData
  f_edges_above : Fun K "edges_above" "edges_above" s_edges_above a_edges_above fd_edges_above
  g_edges_above : mg "edges_above" = some (.ref a_edges_above)
  bd_edges_above : Binds K fd_edges_above ["tree", "node"] []
  a_mirror : Addr
  fd_mirror : FuncData
  f_mirror : Fun K "mirror" "mirror" s_mirror a_mirror fd_mirror
  g_mirror : mg "mirror" = some (.ref a_mirror)
  bd_mirror : Binds K fd_mirror ["schedule"] []
  a_mirrored_node : Addr
  fd_mirrored_node : FuncData
  f_mirrored_node : Fun K "mirrored_node" "mirrored_node" s_mirrored_node a_mirrored_node fd_mirrored_node
  g_mirrored_node : mg "mirrored_node" = some (.ref a_mirrored_node)
  bd_mirrored_node : Binds K fd_mirrored_node ["node", "last"] []
  a_L_pot : Addr
  fd_L_pot : FuncData
  f_L_pot : Fun K "_law_pot" "_law_pot" s_L_pot a_L_pot fd_L_pot
  g_L_pot : mg "_law_pot" = some (.ref a_L_pot)
  bd_L_pot : Binds K fd_L_pot ["_law_script", "_law_k"] []
  a_L_take : Addr
  fd_L_take : FuncData
  f_L_take : Fun K "_law_take" "_law_take" s_L_take a_L_take fd_L_take
  g_L_take : mg "_law_take" = some (.ref a_L_take)
  bd_L_take : Binds K fd_L_take ["_law_pot_here", "_law_wide"] []
  a_L_of : Addr
  fd_L_of : FuncData
  f_L_of : Fun K "_law_of" "_law_of" s_L_of a_L_of fd_L_of
  g_L_of : mg "_law_of" = some (.ref a_L_of)
  bd_L_of : Binds K fd_L_of ["_law_pot_here", "_law_some"] []
  a_L_plans : Addr
  fd_L_plans : FuncData
  f_L_plans : Fun K "_law_plans" "_law_plans" s_L_plans a_L_plans fd_L_plans
  g_L_plans : mg "_law_plans" = some (.ref a_L_plans)
  bd_L_plans : Binds K fd_L_plans ["_law_count"] []
  a_L_drawn_plan : Addr
  fd_L_drawn_plan : FuncData
  f_L_drawn_plan : Fun K "_law_drawn_plan" "_law_drawn_plan" s_L_drawn_plan a_L_drawn_plan fd_L_drawn_plan
  g_L_drawn_plan : mg "_law_drawn_plan" = some (.ref a_L_drawn_plan)
  bd_L_drawn_plan : Binds K fd_L_drawn_plan ["_law_pot_here", "_law_count"] []
  a_L_counted : Addr
  fd_L_counted : FuncData
  f_L_counted : Fun K "_law_counted" "_law_counted" s_L_counted a_L_counted fd_L_counted
  g_L_counted : mg "_law_counted" = some (.ref a_L_counted)
  bd_L_counted : Binds K fd_L_counted ["_law_plan"] []
  a_L_load : Addr
  fd_L_load : FuncData
  f_L_load : Fun K "_law_load" "_law_load" s_L_load a_L_load fd_L_load
  g_L_load : mg "_law_load" = some (.ref a_L_load)
  bd_L_load : Binds K fd_L_load ["_law_pot_here", "_law_count", "_law_wide"] []
  a_L_within : Addr
  fd_L_within : FuncData
  f_L_within : Fun K "_law_within" "_law_within" s_L_within a_L_within fd_L_within
  g_L_within : mg "_law_within" = some (.ref a_L_within)
  bd_L_within : Binds K fd_L_within ["_law_plan", "_law_k", "_law_c"] []
  a_L_one_right : Addr
  fd_L_one_right : FuncData
  f_L_one_right : Fun K "_law_one_right" "_law_one_right" s_L_one_right a_L_one_right fd_L_one_right
  g_L_one_right : mg "_law_one_right" = some (.ref a_L_one_right)
  bd_L_one_right : Binds K fd_L_one_right ["_law_plan", "_law_bulk", "_law_looks"] []
  a_L_right : Addr
  fd_L_right : FuncData
  f_L_right : Fun K "_law_right" "_law_right" s_L_right a_L_right fd_L_right
  g_L_right : mg "_law_right" = some (.ref a_L_right)
  bd_L_right : Binds K fd_L_right ["_law_pot_here"] []
  a_law : Addr
  fd_law : FuncData
  f_law : Fun K "law" "law" s_law a_law fd_law
  g_law : mg "law" = some (.ref a_law)
  bd_law : Binds K fd_law ["_law_script"] []
  b_isinstance : mg "isinstance" = none
  b_int : mg "int" = none
  b_bool : mg "bool" = none
  b_all : mg "all" = none
  b_tuple : mg "tuple" = none
  b_len : mg "len" = none
  b_enumerate : mg "enumerate" = none
  b_range : mg "range" = none
  b_sum : mg "sum" = none
  b_zip : mg "zip" = none
  b_max : mg "max" = none
  b_reversed : mg "reversed" = none
  b_abs : mg "abs" = none
  b_min : mg "min" = none
  t_MOST_LOAD : Tok
  c_MOST_LOAD : mg "MOST_LOAD" = some (.int (1000000000) t_MOST_LOAD)
  t_MOST_FLUSHES : Tok
  c_MOST_FLUSHES : mg "MOST_FLUSHES" = some (.int (60) t_MOST_FLUSHES)
  t_NO_PARENT : Tok
  c_NO_PARENT : mg "NO_PARENT" = some (.int (-1) t_NO_PARENT)
section
variable {P : Program} {w : World} {K : PySem.W.Frag} {mg : Str → Option Value} {base : Heap}
def sp_is_int (K : PySem.W.Frag) : Sp := fun vs H Q _ => ∃ i : Int, vs = [.int i] ∧ Q (.bl true) H
theorem ok_is_int (TX : Tx K mg) : FnOk P w K mg base CX0 1 TX.a_is_int TX.fd_is_int ["value"] (sp_is_int K) := by
  refine TX.f_is_int.ok sc_is_int (fun vs H Q E h => ?_) (fun cdv A outer s H vs Q E hr h => ?_)
  · obtain ⟨i, rfl, _⟩ := h; rfl
  · obtain ⟨i, rfl, q⟩ := h
    refine ⟨_, (pss_one (ps_ret (pe_and (pe_callB (id := "isinstance") (k_isi (K := K) rfl) (by rfl) TX.b_isinstance (by decide +kernel) (pa_cons (pv 0) (pa_cons (pe_bltn (v := .ty "int") (by rfl) TX.b_int (by decide +kernel) rfl) pa_nil))) (pe_one (pe_not (pe_callB (id := "isinstance") (k_isi (K := K) rfl) (by rfl) TX.b_isinstance (by decide +kernel) (pa_cons (pv 0) (pa_cons (pe_bltn (v := .ty "bool") (by rfl) TX.b_bool (by decide +kernel) rfl) pa_nil)))))))), ?_⟩
    refine ⟨.int i, rfl, .int i, .ty "int", .type "int", .type "int", true, rfl, .ty _, .base (.int i), kit_ty (by decide +kernel), true, rfl, ?_⟩
    exact iteT ⟨.int i, rfl, .int i, .ty "bool", .type "int", .type "bool", false, rfl, .ty _, .base (.int i), kit_ty (by decide +kernel), false, rfl, q⟩
def sp_is_count (K : PySem.W.Frag) : Sp := fun vs H Q _ => ∃ i : Int, vs = [.int i] ∧ Q (.bl (decide (0 ≤ i))) H
theorem ok_is_count (TX : Tx K mg) : FnOk P w K mg base CX0 2 TX.a_is_count TX.fd_is_count ["value"] (sp_is_count K) := by
  refine TX.f_is_count.ok sc_is_count (fun vs H Q E h => ?_) (fun cdv A outer s H vs Q E hr h => ?_)
  · obtain ⟨i, rfl, _⟩ := h; rfl
  · obtain ⟨i, rfl, q⟩ := h
    refine ⟨_, (pss_one (ps_ret (pe_and (pe_call (ok_is_int TX) (hr.mono (by decide)) (by rfl) TX.g_is_int TX.f_is_int.kp TX.bd_is_int .nil pass0 (pa_cons (pv 0) pa_nil)) (pe_one (pe_cmpR op_ge (pv 0) pe_int (nomark _)))))), ?_⟩
    exact ⟨.int i, rfl, i, rfl, true, rfl, iteT ⟨.int i, rfl, i, 0, rfl, rfl, q⟩⟩
def sp_is_count_up_to (K : PySem.W.Frag) : Sp := fun vs H Q _ => ∃ i m : Int, vs = [.int i, .int m] ∧ Q (.bl (decide (0 ≤ i) && decide (i ≤ m))) H
theorem ok_is_count_up_to (TX : Tx K mg) : FnOk P w K mg base CX0 3 TX.a_is_count_up_to TX.fd_is_count_up_to ["value", "most"] (sp_is_count_up_to K) := by
  refine TX.f_is_count_up_to.ok sc_is_count_up_to (fun vs H Q E h => ?_) (fun cdv A outer s H vs Q E hr h => ?_)
  · obtain ⟨i, m, rfl, _⟩ := h; rfl
  · obtain ⟨i, m, rfl, q⟩ := h
    refine ⟨_, (pss_one (ps_ret (pe_and (pe_call (ok_is_count TX) (hr.mono (by decide)) (by rfl) TX.g_is_count TX.f_is_count.kp TX.bd_is_count .nil pass0 (pa_cons (pv 0) pa_nil)) (pe_one (pe_cmpR op_le (pv 0) (pv 1) (nomark _)))))), ?_⟩
    refine ⟨.int i, rfl, i, rfl, _, rfl, ?_⟩
    by_cases h0 : 0 ≤ i
    · rw [decide_eq_true h0] at q ⊢
      exact iteT ⟨.int i, rfl, .int m, rfl, i, m, rfl, rfl, q⟩
    · rw [decide_eq_false h0] at q ⊢
      exact iteF q
def sp_is_schedule (K : PySem.W.Frag) : Sp := fun vs H Q _ => ∃ (a : Addr) (t : T), vs = [.ref a] ∧ SqT K H a (vi t.sch) ∧ t.size ≤ 60 ∧ Q (.bl true) H
theorem ok_is_schedule (TX : Tx K mg) : FnOk P w K mg base CX0 4 TX.a_is_schedule TX.fd_is_schedule ["value"] (sp_is_schedule K) := by
  refine TX.f_is_schedule.ok sc_is_schedule (fun vs H Q E h => ?_) (fun cdv A outer s H vs Q E hr h => ?_)
  · obtain ⟨a, t, rfl, _⟩ := h; rfl
  · obtain ⟨a, t, rfl, hS, hz, q⟩ := h
    have hlen : (vi t.sch).length = t.size := by rw [vi_len, T.sch_len]
    refine ⟨_, (pss_cons (ps_if (PW.pt (pw_or (pt_not (pt_val (pe_callB (id := "isinstance") (k_isi (K := K) rfl) (by rfl) TX.b_isinstance (by decide +kernel) (pa_cons (pv 0) (pa_cons (pe_bltn (v := .ty "tuple") (by rfl) TX.b_tuple (by decide +kernel) rfl) pa_nil))))) (pw_or1 (pt_cmpR op_gt (pe_callB (id := "len") (k_len (K := K) rfl) (by rfl) TX.b_len (by decide +kernel) (pa_cons (pv 0) pa_nil)) (pe_glob (v := .int (60)) (by rfl) TX.c_MOST_FLUSHES ⟨_, rfl⟩) (nomark _)))))
        (pss_one (ps_ret pe_bl))
        pss_nil)
      (pss_cons (ps_set (i := 1) sc_is_schedule.nd rfl (.inl rfl) pe_int)
      (pss_cons (ps_for PassesOwn.never rfl (k_piT (K := K) rfl (pv 0)) (pg_name (i := 2) sc_is_schedule.nd rfl (.inl rfl))
        (pss_cons (ps_if (pt_not (pt_val (pe_call (ok_is_count_up_to TX) (hr.mono (by decide)) (by rfl) TX.g_is_count_up_to TX.f_is_count_up_to.kp TX.bd_is_count_up_to .nil pass0 (pa_cons (pv 2) (pa_cons (pv 1) pa_nil)))))
          (pss_one (ps_ret pe_bl))
          pss_nil)
        (pss_one (ps_set (i := 1) sc_is_schedule.nd rfl (.inl rfl) (pe_op op_add (pe_op op_sub (pv 1) (pv 2)) pe_int)))))
      (pss_one (ps_ret pe_bl))))), ?_⟩
    refine ⟨.ref a, rfl, .ref a, .ty "tuple", .type "tuple", .type "tuple", true, rfl, .ty _, ty_tup hS, kit_ty (by decide +kernel), true, rfl, iteF ⟨.ref a, rfl, a, _, rfl, .inr hS, _, _, rfl, rfl, _, rfl, decF (by rw [hlen]; omega) ?_⟩⟩
    refine ⟨.ref a, rfl, a, rfl, ⟨_, hS⟩, for_tup (K := K) (xs := vi t.sch) (fun i σ H' => H' = H ∧ ∃ y2, σ = [some (.ref a), some (.int ((pre t i).runs : Int)), y2] ) ⟨rfl, none, rfl⟩ (fun i σ H' _ h => by rw [h.1]; exact hS) ?_ ?_⟩
    · rintro i x σ H' hx ⟨rfl, y2, rfl⟩
      have hi : i < t.sch.length := by
        have := (List.getElem?_eq_some_iff.mp hx).1
        rwa [vi_len] at this
      have hm := List.getElem?_eq_getElem hi
      rw [vi_get hm] at hx
      cases hx
      obtain ⟨e1, h1⟩ := pre_succ hm
      have e2 := T.push_runs _ _ h1
      refine ⟨_, rfl, _, rfl, _, _, rfl, true, ?_, iteF ⟨_, rfl, _, rfl, _, _, rfl, rfl, _, _, rfl, rfl, rfl, some (.int (t.sch[i] : Int)), ?_⟩⟩
      · rw [decide_eq_true (by omega), decide_eq_true (by omega)]; rfl
      · rw [e1, e2]
        show [_, _, _] = [_, _, _]
        simp only [Int.natCast_add, Int.natCast_sub h1]
        rfl
    · rintro σ H' ⟨rfl, y2, rfl⟩
      exact q
end
def dPr (p : Nat × Nat) : PyData := .tuple [.int (p.1 : Int), .int (p.2 : Int)]
def dStk (l : List (Nat × Nat)) : PyData := .tuple (l.map dPr)
theorem tf_pr (p : Nat × Nat) : Tf (dPr p) := .tup fun d h => by
  rcases List.mem_cons.mp h with rfl | h
  · exact .int _
  · rcases List.mem_cons.mp h with rfl | h
    · exact .int _
    · cases h
theorem tf_stk (l : List (Nat × Nat)) : Tf (dStk l) := .tup fun d h => by
  obtain ⟨p, _, rfl⟩ := List.mem_map.mp h
  exact tf_pr p
section
variable {P : Program} {w : World} {K : PySem.W.Frag} {mg : Str → Option Value} {base : Heap}
def sp_stack_after (K : PySem.W.Frag) : Sp := fun vs H Q _ => ∃ (a : Addr) (t : T) (m : Nat), vs = [.ref a, .int (t.size : Int), .int (m : Int)] ∧ Dp K H (.ref a) (dStk (t.stk 0)) ∧ m ≤ t.runs ∧ t.size ≤ 60 ∧
  ∀ H' p, Same H H' → Dp K H' (.ref p) (dStk ((t.push m).stk 0)) → Q (.ref p) H'
theorem ok_stack_after (TX : Tx K mg) : FnOk P w K mg base CX0 1 TX.a_stack_after TX.fd_stack_after ["stack", "flush", "merge"] (sp_stack_after K) := by
  refine TX.f_stack_after.ok sc_stack_after (fun vs H Q E h => ?_) (fun cdv A outer s H vs Q E hr h => ?_)
  · obtain ⟨a, t, m, rfl, _⟩ := h; rfl
  · obtain ⟨a, t, m, rfl, hS, hm, hz, q⟩ := h
    obtain ⟨a', xs, e, hS, hA⟩ := Dp.tupInv hS
    cases e
    have hl := DpAll.len hA
    rw [List.length_map, T.stk_len] at hl
    have hrs := T.runs_le t
    have hst := T.start_le t m hm
    have e2 : ((xs.length : Int) - (m : Int)) = ((t.runs - m : Nat) : Int) := by rw [hl]; omega
    refine ⟨_, (pss_cons (ps_set (i := 3) sc_stack_after.nd rfl (.inl rfl) (pe_op op_sub (pe_callB (id := "len") (k_len (K := K) rfl) (by rfl) TX.b_len (by decide +kernel) (pa_cons (pv 0) pa_nil)) (pv 2)))
      (pss_cons (ps_set (i := 4) sc_stack_after.nd rfl (.inl rfl) (pe_ifExp (pt_cmpR op_gt (pv 2) pe_int (nomark _)) (pe_ix (k_ixT (K := K) rfl) (pe_ix (k_ixT (K := K) rfl) (pv 0) (pv 3) (fun _ _ => rfl)) pe_int (fun _ _ => rfl)) (pv 1)))
      (pss_one (ps_ret (pe_op (k_catT (K := K) rfl) (pe_slice (k_slT (K := K) rfl) (pv 0) po_none (po_some (pv 3))) (pe_tup (pa_cons (pe_tup (pa_cons (pv 4) (pa_cons (pe_op op_add (pv 1) pe_int) pa_nil))) pa_nil))))))), ?_⟩
    refine ⟨.ref a, rfl, a, xs, rfl, .inr hS, .int m, rfl, _, _, rfl, rfl, ?_⟩
    refine ⟨.int m, rfl, m, 0, rfl, rfl, _, rfl, ?_⟩
    have pos : (0 < m → ∃ b e, xs[t.runs - m]? = some (.ref b) ∧ SqT K H b [.int (t.start m : Int), .int e]) := fun h0 => by
      obtain ⟨e, he⟩ := T.stk_at t m hm 0 h0
      have h1 : ((t.stk 0).map dPr)[t.runs - m]? = some (dPr (0 + t.start m, e)) := by rw [List.getElem?_map, he]; rfl
      obtain ⟨v, h2, h3⟩ := DpAll.get hA h1
      obtain ⟨b, ys, rfl, h4, h5⟩ := Dp.tupInv h3
      have h6 : ys = [V.int (t.start m : Int), V.int (e : Int)] := by
        have := dp_ints_inv (ns := [((0 + t.start m : Nat) : Int), (e : Int)]) h5
        rw [this, Nat.zero_add]; rfl
      rw [h6] at h4
      exact ⟨b, e, h2, h4⟩
    have fin : ∀ p1 H1 p2 p3, Same H H1 → SqT K H1 p1 (xs.take (t.runs - m)) → H1 p2 = none → (upd H1 p2 (.tup [.int (t.start m : Int), .int ((t.size : Int) + 1)])) p3 = none →
        rCatA K (.ref p1) (.ref p3) (upd (upd H1 p2 (.tup [.int (t.start m : Int), .int ((t.size : Int) + 1)])) p3 (.tup [.ref p2])) Q := fun p1 H1 p2 p3 s1 h1 n2 n3 => by
      have s2 : Same H1 (upd H1 p2 (.tup [.int (t.start m : Int), .int ((t.size : Int) + 1)])) := same_upd n2
      have s3 := same_upd (o := .tup [.ref p2]) n3
      refine cat_read (Same.tup (s2.trans s3) h1) (.inl (.inl upd_same)) (by rw [List.length_take]; simp; omega) fun p H' s4 h4 => q H' p (((s1.trans s2).trans s3).trans s4) ?_
      rw [T.stk_push t m hm 0]
      unfold dStk
      rw [List.map_append, List.map_take]
      refine .tup h4 (DpAll.append (DpAll.same (((s1.trans s2).trans s3).trans s4) (DpAll.take _ hA)) (.cons ?_ .nil))
      refine .tup (xs := [.int (t.start m : Int), .int ((t.size : Int) + 1)]) (Same.tup (s3.trans s4) (.inl (.inl upd_same))) ?_
      have := dp_ints (K := K) (H := H') [(t.start m : Int), ((t.size : Int) + 1)]
      simpa using this
    refine ite2 (fun h => ?_) (fun h => ?_)
    · have h0 : 0 < m := by simpa using h
      obtain ⟨b, e, h2, h4⟩ := pos h0
      refine ⟨.ref a, rfl, _, rfl, a, xs, _, .ref b, rfl, rfl, hS, (by rw [e2]; exact atI_nat h2), b, _, 0, .int (t.start m : Int), rfl, rfl, h4, rfl, ?_⟩
      refine ⟨.ref a, rfl, _, rfl, _, rfl, sl_read hS fun p1 H1 s1 h1 => ?_⟩
      refine ⟨_, rfl, _, rfl, _, _, rfl, rfl, sz60 (by simp), fun p2 n2 => ⟨sz60 (by simp), fun p3 n3 => ?_⟩⟩
      exact fin p1 H1 p2 p3 s1 (by rw [e2, cut_to (by omega)] at h1; exact h1) n2 n3
    · have h0 : m = 0 := by
        have : ¬ (0 < m) := by simpa using h
        omega
      refine ⟨.int (t.start m : Int), by rw [T.start_zero t m hm h0]; rfl, ?_⟩
      refine ⟨.ref a, rfl, _, rfl, _, rfl, sl_read hS fun p1 H1 s1 h1 => ?_⟩
      refine ⟨_, rfl, _, rfl, _, _, rfl, rfl, sz60 (by simp), fun p2 n2 => ⟨sz60 (by simp), fun p3 n3 => ?_⟩⟩
      exact fin p1 H1 p2 p3 s1 (by rw [e2, cut_to (by omega)] at h1; exact h1) n2 n3
def dStacks (t : T) : List PyData := (List.range t.size).map fun i => dStk ((pre t (i + 1)).stk 0)
theorem tf_stacks (t : T) : ∀ d, d ∈ dStacks t → Tf d := fun d h => by
  obtain ⟨i, _, rfl⟩ := List.mem_map.mp h
  exact tf_stk _
theorem dStacks_len (t : T) : (dStacks t).length = t.size := by simp [dStacks]
theorem dStacks_at {t : T} {i : Nat} (h : i < t.size) : (dStacks t)[i]? = some (dStk ((pre t (i + 1)).stk 0)) := by simp [dStacks, h]
theorem dStacks_take {t : T} {i : Nat} (h : i < t.size) : (dStacks t).take (i + 1) = (dStacks t).take i ++ [dStk ((pre t (i + 1)).stk 0)] := by
  rw [List.take_add_one, dStacks_at h]; rfl
def sp_stacks (K : PySem.W.Frag) : Sp := fun vs H Q _ => ∃ (a : Addr) (t : T), vs = [.ref a] ∧ SqT K H a (vi t.sch) ∧ t.size ≤ 60 ∧ ∀ H' p, Same H H' → Dp K H' (.ref p) (.tuple (dStacks t)) → Q (.ref p) H'
theorem ok_stacks (TX : Tx K mg) : FnOk P w K mg base CX0 5 TX.a_stacks TX.fd_stacks ["schedule"] (sp_stacks K) := by
  refine TX.f_stacks.ok sc_stacks (fun vs H Q E h => ?_) (fun cdv A outer s H vs Q E hr h => ?_)
  · obtain ⟨a, t, rfl, _⟩ := h; rfl
  · obtain ⟨a, t, rfl, hS, hz, q⟩ := h
    have hlen : (vi t.sch).length = t.size := by rw [vi_len, T.sch_len]
    refine ⟨_, (pss_cons (ps_if (pt_not (pt_val (pe_call (ok_is_schedule TX) (hr.mono (by decide)) (by rfl) TX.g_is_schedule TX.f_is_schedule.kp TX.bd_is_schedule .nil pass0 (pa_cons (pv 0) pa_nil))))
        (pss_one ps_never)
        pss_nil)
      (pss_cons (ps_set (i := 1) sc_stacks.nd rfl (.inl rfl) (pe_tup pa_nil))
      (pss_cons (ps_set (i := 2) sc_stacks.nd rfl (.inl rfl) (pe_lst pa_nil))
      (pss_cons (ps_for PassesOwn.never rfl (pi_enumT (by rfl) TX.b_enumerate (pa_cons (pv 0) pa_nil)) (pg_tup rfl (pgs_cons (pg_name (i := 3) sc_stacks.nd rfl (.inl rfl)) (pgs_cons (pg_name (i := 4) sc_stacks.nd rfl (.inl rfl)) pgs_nil)))
        (pss_cons (ps_set (i := 1) sc_stacks.nd rfl (.inl rfl) (pe_call (ok_stack_after TX) (hr.mono (by decide)) (by rfl) TX.g_stack_after TX.f_stack_after.kp TX.bd_stack_after .nil pass0 (pa_cons (pv 1) (pa_cons (pv 3) (pa_cons (pv 4) pa_nil)))))
        (pss_one (ps_expr (pe_bm PySem.F.plainAttrs_list PySem.F.slot_list_append PySem.F.type_list_append mt_append (pv 2) (pa_cons (pv 1) pa_nil))))))
      (pss_one (ps_ret (pe_callTy (T := "tuple") (k_tupOf (K := K) rfl) (by rfl) TX.b_tuple (by decide +kernel) (pa_cons (pv 2) pa_nil)))))))), ?_⟩
    refine ⟨.ref a, rfl, a, t, rfl, hS, hz, true, rfl, iteF ⟨sz60 (by simp), fun p0 n0 => ⟨sz60 (by simp), fun r nr => ?_⟩⟩⟩
    have s0 : Same H (upd H p0 (.tup [])) := same_upd n0
    have s1 : Same (upd H p0 (.tup [])) (upd (upd H p0 (.tup [])) r (.lst [])) := same_upd nr
    have nr0 : H r = none := s0.free nr
    refine ⟨.ref a, rfl, a, _, rfl, Same.tup (s0.trans s1) hS, for_it walk_enumT (fun i σ H' => ∃ p y3 y4 acc, σ = [some (.ref a), some (.ref p), some (.ref r), y3, y4] ∧ Same H H' ∧ Dp K H' (.ref p) (dStk ((pre t i).stk 0)) ∧ H' r = some (.lst acc) ∧ DpAll K H' acc ((dStacks t).take i))
      ⟨p0, none, none, [], rfl, s0.trans s1, .tup (Same.tup s1 (.inl (.inl upd_same))) .nil, upd_same, .nil⟩ (fun i σ H' _ ⟨_, _, _, _, _, h, _⟩ => Same.tup h hS) ?_ ?_⟩
    · rintro i x σ H1 H2 hi ⟨p, y3, y4, acc, rfl, sm, hp, hr', hA⟩ hy
      obtain ⟨Tp, x1, x2, rfl, nT, rfl, e1, e2⟩ := hy
      cases e1
      have hi' : i < t.sch.length := by rw [vi_len] at hi; exact hi
      have hm := List.getElem?_eq_getElem hi'
      replace e2 : (vi t.sch)[i]? = some x2 := e2
      rw [vi_get hm] at e2
      cases e2
      have hi2 : i < t.size := by rw [← T.sch_len]; exact hi'
      obtain ⟨f1, f2⟩ := pre_succ hm
      have sT : Same H1 (upd H1 Tp (.tup [.int (i : Nat), .int (t.sch[i] : Int)])) := same_upd nT
      refine ⟨Tp, _, rfl, .inl (.inl upd_same), rfl, _, _, rfl, _, [], rfl, rfl, ?_⟩
      refine ⟨.ref p, rfl, .int (i : Nat), rfl, .int (t.sch[i] : Int), rfl, p, pre t i, t.sch[i], ?_, Dp.same sT hp, f2, by rw [pre_size (by omega)]; omega, fun H3 p3 s3 h3 => ?_⟩
      · rw [pre_size (by omega)]; rfl
      · rw [← f1] at h3
        have hr3 := s3 _ _ (sT _ _ hr')
        have hlA := DpAll.len hA
        rw [List.length_take, dStacks_len] at hlA
        refine ⟨.ref r, rfl, .inl ⟨rfl, _, .inl (.inl hr3)⟩, .ref p3, rfl, r, _, _, rfl, rfl, hr3, sz61 (by omega), ?_⟩
        have kp : Keep K H3 (upd H3 r (.lst (acc ++ [.ref p3]))) := But.keep But.upd hr3
        refine ⟨p3, some (.int (i : Nat)), some (.int (t.sch[i] : Int)), acc ++ [.ref p3], rfl, Same.mut ((sm.trans sT).trans s3) nr0, Dp.keep kp (tf_stk _) h3, upd_same, ?_⟩
        rw [dStacks_take hi2]
        refine DpAll.keep kp (fun d h => ?_) (DpAll.append (DpAll.same (sT.trans s3) hA) (.cons h3 .nil))
        rw [← dStacks_take hi2] at h
        exact tf_stacks t d (List.mem_of_mem_take h)
    · rintro σ H' ⟨p, y3, y4, acc, rfl, sm, hp, hr', hA⟩
      rw [hlen, List.take_of_length_le (by rw [dStacks_len]; omega)] at hA
      refine ⟨.ref r, rfl, r, acc, rfl, .inl ⟨.inl (.inl hr'), fun l nl => ?_⟩⟩
      exact q _ l (sm.trans (same_upd nl)) (.tup (.inl (.inl upd_same)) (DpAll.same (same_upd nl) hA))
end
section
variable {P : Program} {w : World} {K : PySem.W.Frag} {mg : Str → Option Value} {base : Heap}
def sp_writes (K : PySem.W.Frag) : Sp := fun vs H Q _ => ∃ (a : Addr) (t : T), vs = [.ref a] ∧ SqT K H a (vi t.sch) ∧ t.size ≤ 60 ∧ ∀ H' p, Same H H' → SqT K H' p (vi t.wr) → Q (.ref p) H'
theorem ok_writes (TX : Tx K mg) : FnOk P w K mg base CX0 6 TX.a_writes TX.fd_writes ["schedule"] (sp_writes K) := by
  refine TX.f_writes.ok sc_writes (fun vs H Q E h => ?_) (fun cdv A outer s H vs Q E hr h => ?_)
  · obtain ⟨a, t, rfl, _⟩ := h; rfl
  · obtain ⟨a, t, rfl, hS, hz, q⟩ := h
    refine ⟨_, (pss_cons (ps_set (i := 1) sc_writes.nd rfl (.inl rfl) (pe_call (ok_stacks TX) (hr.mono (by decide)) (by rfl) TX.g_stacks TX.f_stacks.kp TX.bd_stacks .nil pass0 (pa_cons (pv 0) pa_nil)))
      (pss_cons (ps_set (i := 2) sc_writes.nd rfl (.inl rfl) (pe_op op_rep (pe_lst (pa_cons pe_int pa_nil)) (pe_callB (id := "len") (k_len (K := K) rfl) (by rfl) TX.b_len (by decide +kernel) (pa_cons (pv 1) pa_nil))))
      (pss_cons (ps_for PassesOwn.never rfl (k_piT (K := K) rfl (pv 1)) (pg_name (i := 3) sc_writes.nd rfl (.inl rfl))
        (pss_cons (ps_asg (pe_ix (k_ixT (K := K) rfl) (pv 3) (pe_un un_neg pe_int) (fun _ _ => rfl)) (pg_tup rfl (pgs_cons (pg_name (i := 4) sc_writes.nd rfl (.inl rfl)) (pgs_cons (pg_name (i := 5) sc_writes.nd rfl (.inl rfl)) pgs_nil))))
        (pss_one (ps_for PassesOwn.never rfl (pi_range2 (by rfl) TX.b_range (pa_cons (pv 4) (pa_cons (pv 5) pa_nil))) (pg_name (i := 6) sc_writes.nd rfl (.inl rfl))
          (pss_one (ps_augS (pv 2) (pv 6) get_list pe_int ip_add set_list))))))
      (pss_one (ps_ret (pe_callTy (T := "tuple") (k_tupOf (K := K) rfl) (by rfl) TX.b_tuple (by decide +kernel) (pa_cons (pv 2) pa_nil))))))), ?_⟩
    refine ⟨.ref a, rfl, a, t, rfl, hS, hz, fun H1 p1 s1 h1 => ?_⟩
    obtain ⟨p1', xs, e, hX, hA⟩ := Dp.tupInv h1
    cases e
    have hl := DpAll.len hA
    rw [dStacks_len] at hl
    refine ⟨sz60 (by simp), fun z nz => ?_⟩
    have s2 : Same H1 (upd H1 z (.lst [.int 0])) := same_upd nz
    refine ⟨.ref p1, rfl, p1, xs, rfl, .inr (Same.tup s2 hX), z, _, _, rfl, rfl, upd_same, by omega, by omega, sz60 (by simp; omega), fun l nl => ?_⟩
    have s3 := same_upd (o := .lst (List.replicate ((xs.length : Int)).toNat [V.int 0]).flatten) nl
    have ec : (List.replicate ((xs.length : Int)).toNat [V.int 0]).flatten = vi (List.replicate t.size 0) := by
      rw [vi_rep, Int.toNat_natCast, hl, List.flatten_replicate_singleton]; rfl
    rw [ec] at s3 ⊢
    have hX3 := Same.tup (s2.trans s3) hX
    have hA3 := DpAll.same (s2.trans s3) hA
    have nl1 : H1 l = none := s2.free nl
    generalize hH3 : upd (upd H1 z (HO.lst [V.int 0])) l (HO.lst (vi (List.replicate t.size 0))) = H3 at s3 hX3 hA3 ⊢
    have hl3 : H3 l = some (.lst (vi (List.replicate t.size 0))) := by rw [← hH3]; exact upd_same
    have s13 : Same H1 H3 := s2.trans s3
    refine ⟨.ref p1, rfl, p1, rfl, ⟨_, hX3⟩, for_tup (K := K) (xs := xs) (fun i σ H' => ∃ y3 y4 y5 y6 c, σ = [some (.ref a), some (.ref p1), some (.ref l), y3, y4, y5, y6] ∧ Same H1 H' ∧ H' l = some (.lst (vi c)) ∧ c.length = t.size ∧ ∀ k, k < t.size → c[k]? = some ((pre t i).wr.getD k 0))
      ⟨none, none, none, none, List.replicate t.size 0, rfl, s13, hl3, by simp, fun k hk => by rw [List.getElem?_replicate, if_pos hk]; rfl⟩ (fun i σ H' _ ⟨_, _, _, _, _, _, h, _⟩ => Same.tup h hX) ?_ ?_⟩
    · rintro i x σ H4 hx ⟨y3, y4, y5, y6, c, rfl, s4, hc, hcl, hcv⟩
      have hi : i < t.size := by rw [← hl]; exact (List.getElem?_eq_some_iff.mp hx).1
      obtain ⟨m, hm⟩ : ∃ m, t.sch[i]? = some m := ⟨_, List.getElem?_eq_getElem (show i < t.sch.length by rw [T.sch_len]; exact hi)⟩
      obtain ⟨f1, f2⟩ := pre_succ hm
      have fs := T.start_le _ _ f2
      rw [pre_size (by omega)] at fs
      obtain ⟨v, g1, g2⟩ := DpAll.get (DpAll.same s4 hA) (dStacks_at hi)
      rw [hx] at g1
      cases g1
      obtain ⟨b, us, rfl, g3, g4⟩ := Dp.tupInv g2
      rw [stk_last hm, List.map_append] at g4
      obtain ⟨us', v', rfl, _, g5⟩ := DpAll.snoc g4
      obtain ⟨b', e5, g6⟩ := Dp.intsInv (ns := [((pre t i).start m : Int), ((i + 1 : Nat) : Int)]) g5
      cases e5
      refine ⟨.ref b, rfl, _, rfl, b, _, -1, _, rfl, rfl, g3, atI_last _ _, b', _, rfl, g6, rfl, _, _, rfl, _, [], rfl, rfl, ?_⟩
      refine ⟨_, rfl, _, rfl, _, _, rfl, ⟨by omega, by omega, by omega, by omega⟩, for_range (lo := ((pre t i).start m : Int)) (n := (((i + 1 : Nat) : Int) - ((pre t i).start m : Int)).toNat)
        (fun j σ H' => ∃ y6 c, σ = [some (.ref a), some (.ref p1), some (.ref l), some (.ref b), some (.int ((pre t i).start m : Int)), some (.int ((i + 1 : Nat) : Int)), y6] ∧ Same H1 H' ∧ H' l = some (.lst (vi c)) ∧ c.length = t.size ∧ ∀ k, k < t.size → c[k]? = some (if (pre t i).start m ≤ k ∧ k < (pre t i).start m + j then (pre t i).wr.getD k 0 + 1 else (pre t i).wr.getD k 0))
        ⟨y6, c, rfl, s4, hc, hcl, fun k hk => by rw [if_neg (by omega)]; exact hcv k hk⟩ ?_ ?_⟩
      · rintro j σ H5 hj ⟨y6, c, rfl, s5, hc, hcl, hcv⟩
        have hj2 : (pre t i).start m + j < t.size := by omega
        have e1 : ((pre t i).start m : Int) + (j : Int) = (((pre t i).start m + j : Nat) : Int) := by omega
        have h6 := hcv _ hj2
        rw [if_neg (by omega)] at h6
        rw [e1]
        refine ⟨.ref l, rfl, _, rfl, l, _, _, _, rfl, rfl, .inl (.inl hc), at_vi h6, _, _, rfl, rfl, l, _, _, _, rfl, rfl, hc, ixN_of (by rw [vi_len]; omega), ?_⟩
        have e2 : (((pre t i).wr.getD ((pre t i).start m + j) 0 : Nat) : Int) + 1 = (((pre t i).wr.getD ((pre t i).start m + j) 0 + 1 : Nat) : Int) := by omega
        refine ⟨_, c.set ((pre t i).start m + j) ((pre t i).wr.getD ((pre t i).start m + j) 0 + 1), rfl, Same.mut s5 nl1, ?_, by rw [List.length_set]; exact hcl, fun k hk => ?_⟩
        · rw [← vi_set, ← e2]; exact upd_same
        · by_cases hk2 : (pre t i).start m + j = k
          · rw [← hk2, List.getElem?_set_self (by omega), if_pos (by omega)]
          · rw [List.getElem?_set_ne hk2, hcv k hk]
            by_cases hk3 : (pre t i).start m ≤ k ∧ k < (pre t i).start m + j
            · rw [if_pos hk3, if_pos (by omega)]
            · rw [if_neg hk3, if_neg (by omega)]
      · rintro σ H5 ⟨y6, c, rfl, s5, hc, hcl, hcv⟩
        refine ⟨_, _, _, y6, c, rfl, s5, hc, hcl, fun k hk => ?_⟩
        rw [hcv k hk, f1, wr_step f2, pre_size (by omega)]
        by_cases hk3 : (pre t i).start m ≤ k ∧ k < i + 1
        · rw [if_pos (by omega), if_pos hk3]
        · rw [if_neg (by omega), if_neg hk3]
    · rintro σ H4 ⟨y3, y4, y5, y6, c, rfl, s4, hc, hcl, hcv⟩
      rw [hl, pre_all] at hcv
      have ecw : c = t.wr := list_by (by rw [hcl, T.wr_len]) fun k hk => hcv k (by omega)
      rw [ecw] at hc
      refine ⟨.ref l, rfl, l, _, rfl, .inl ⟨.inl (.inl hc), fun o no => ?_⟩⟩
      exact q _ o ((s1.trans s4).trans (same_upd no)) (.inl (.inl upd_same))
def sp_run_counts (K : PySem.W.Frag) : Sp := fun vs H Q _ => ∃ (a : Addr) (t : T), vs = [.ref a] ∧ SqT K H a (vi t.sch) ∧ t.size ≤ 60 ∧ ∀ H' p, Same H H' → SqT K H' p (vi t.rc) → Q (.ref p) H'
theorem ok_run_counts (TX : Tx K mg) : FnOk P w K mg base CX0 6 TX.a_run_counts TX.fd_run_counts ["schedule"] (sp_run_counts K) := by
  refine TX.f_run_counts.ok sc_run_counts (fun vs H Q E h => ?_) (fun cdv A outer s H vs Q E hr h => ?_)
  · obtain ⟨a, t, rfl, _⟩ := h; rfl
  · obtain ⟨a, t, rfl, hS, hz, q⟩ := h
    refine ⟨_, (pss_one (ps_ret (pe_callTy (T := "tuple") (k_tupOf (K := K) rfl) (by rfl) TX.b_tuple (by decide +kernel) (pa_cons (pe_lc (own := [("stack", 1)]) (by rfl) sc_run_counts.nd (k_piT (K := K) rfl (pe_call (ok_stacks TX) (hr.mono (by decide)) (by rfl) TX.g_stacks TX.f_stacks.kp TX.bd_stacks .nil pass0 (pa_cons (pv 0) pa_nil))) (blkOk_by (own := [("stack", 1)]) (N := N_run_counts) (sc := defScope s_run_counts) (by decide +kernel)) (fun _ _ _ _ _ => (pg_name (i := 1) sc_run_counts.nd rfl (Or.inl rfl))) (fun _ _ _ _ _ => pts_nil) (fun _ _ _ _ _ => (pe_callB (id := "len") (k_len (K := K) rfl) (by rfl) TX.b_len (by decide +kernel) (pa_cons (pv 1) pa_nil)))) pa_nil)))), ?_⟩
    refine ⟨.ref a, rfl, a, t, rfl, hS, hz, fun H1 p1 s1 h1 => ?_⟩
    obtain ⟨p1', xs, e, hX, hA⟩ := Dp.tupInv h1
    cases e
    have hl := DpAll.len hA
    rw [dStacks_len] at hl
    refine ⟨p1, rfl, ⟨_, hX⟩, fun D nD => lc_all (K := K) walk_tup ((ci t.rc).map PyData.int) (by rw [List.length_map, ci, List.length_map, T.rc_len, hl]) (tf_ints _) (by omega) nD (fun H' s' => Same.tup s' hX) ?_ ?_ (fun x σ' H' Q Q' h => h _ _) (fun σ' H' Q Q' h => h _ _)⟩
    · rintro i x H2 H2' hi s2 ⟨rfl, hx⟩ d hd R hR
      have hi2 : i < t.size := by omega
      obtain ⟨v, g1, g2⟩ := DpAll.get (DpAll.same s2 hA) (dStacks_at hi2)
      rw [hx] at g1
      cases g1
      obtain ⟨b, us, rfl, g3, g4⟩ := Dp.tupInv g2
      have hl4 := DpAll.len g4
      rw [List.length_map, T.stk_len] at hl4
      refine ⟨rfl, rfl, .ref b, rfl, b, us, rfl, .inr g3, hR _ _ (Same.refl _) ?_⟩
      have e := pre_runs hi2
      rw [List.getElem?_map, ci, List.getElem?_map, e] at hd
      cases hd
      rw [hl4]
      exact .int _
    · intro H2 acc s2 ha hAcc
      rw [dp_ints_inv hAcc] at ha
      refine ⟨D, _, rfl, .inl ⟨.inl (.inl ha), fun o no => ?_⟩⟩
      refine q _ o ((s1.trans s2).trans (same_upd no)) (.inl (.inl ?_))
      rw [vi_ci]; exact upd_same
end
def dIt (x : Nat × T × Nat × Int) : PyData := .tuple [.int (x.1 : Int), .int ((x.1 + x.2.1.size : Nat) : Int), .int (x.2.2.1 : Int), .int x.2.2.2]
theorem tf_it (x : Nat × T × Nat × Int) : Tf (dIt x) := .tup (tf_ints [(x.1 : Int), ((x.1 + x.2.1.size : Nat) : Int), (x.2.2.1 : Int), x.2.2.2])
theorem tf_its (L : List (Nat × T × Nat × Int)) : ∀ d, d ∈ L.map dIt → Tf d := fun d h => by
  obtain ⟨x, _, rfl⟩ := List.mem_map.mp h
  exact tf_it x
theorem snoc_cases {α : Type} (L : List α) : L = [] ∨ ∃ M x, L = M ++ [x] := by
  rcases List.eq_nil_or_concat L with h | ⟨M, x, h⟩
  · exact .inl h
  · exact .inr ⟨M, x, by rw [h, List.concat_eq_append]⟩
theorem int_list_by {c d : List Int} (h : ∀ k, k < d.length → c[k]? = d[k]?) (hl : c.length = d.length) : c = d := by
  refine List.ext_getElem? fun k => ?_
  by_cases hk : k < d.length
  · exact h k hk
  · rw [List.getElem?_eq_none (by omega), List.getElem?_eq_none (by omega)]
def TreeInv (K : PySem.W.Frag) (t : T) (H1 : Hp) (a p1 l w : Addr) (m : Nat) (σ : L2.St) (H' : Hp) : Prop :=
  ∃ (y4 y5 y6 y7 y8 y9 : Option V) (WL : List (Nat × T × Nat × Int)) (acc : List V) (c : List Int), σ = [some (.ref a), some (.ref p1), some (.ref l), some (.ref w), y4, y5, y6, y7, y8, y9] ∧ m = todo WL ∧ Same H1 H' ∧ H' l = some (.lst (c.map V.int)) ∧ c.length = t.size ∧ H' w = some (.lst acc) ∧ DpAll K H' acc (WL.map dIt) ∧
    (∀ x, x ∈ WL → Sub t x.1 x.2.1 x.2.2.1 x.2.2.2) ∧ (∀ k, k < t.size → (∀ x, x ∈ WL → ¬ (x.1 ≤ k ∧ k < x.1 + x.2.1.size)) → c[k]? = t.parOf[k]?) ∧ todo WL ≤ 2 * t.size + 1
section
variable {P : Program} {w : World} {K : PySem.W.Frag} {mg : Str → Option Value} {base : Heap}
def sp_tree_of (K : PySem.W.Frag) : Sp := fun vs H Q _ => ∃ (a : Addr) (t : T), vs = [.ref a] ∧ SqT K H a (vi t.sch) ∧ t.size ≤ 60 ∧ ∀ H' p o, Same H H' → H' p = some (.frz o (.tup (t.parOf.map V.int))) → o.dict = none → Q (.ref p) H'
theorem ok_tree_of (TX : Tx K mg) : FnOk P w K mg base CX0 7 TX.a_tree_of TX.fd_tree_of ["schedule"] (sp_tree_of K) := by
  refine TX.f_tree_of.ok sc_tree_of (fun vs H Q E h => ?_) (fun cdv A outer s H vs Q E hr h => ?_)
  · obtain ⟨a, t, rfl, _⟩ := h; rfl
  · obtain ⟨a, t, rfl, hS, hz, q⟩ := h
    refine ⟨_, (pss_cons (ps_set (i := 1) sc_tree_of.nd rfl (.inr rfl) (pe_call (ok_run_counts TX) (hr.mono (by decide)) (by rfl) TX.g_run_counts TX.f_run_counts.kp TX.bd_run_counts .nil pass0 (pa_cons (pv 0) pa_nil)))
      (pss_cons (ps_set (i := 2) sc_tree_of.nd rfl (.inl rfl) (pe_op op_rep (pe_lst (pa_cons (pe_glob (v := .int (-1)) (by rfl) TX.c_NO_PARENT ⟨_, rfl⟩) pa_nil)) (pe_callB (id := "len") (k_len (K := K) rfl) (by rfl) TX.b_len (by decide +kernel) (pa_cons (pv 1) pa_nil))))
      (pss_cons (ps_set (i := 3) sc_tree_of.nd rfl (.inl rfl) (pe_lst (pa_cons (pe_tup (pa_cons pe_int (pa_cons (pe_callB (id := "len") (k_len (K := K) rfl) (by rfl) TX.b_len (by decide +kernel) (pa_cons (pv 1) pa_nil)) (pa_cons pe_int (pa_cons (pe_glob (v := .int (-1)) (by rfl) TX.c_NO_PARENT ⟨_, rfl⟩) pa_nil))))) pa_nil)))
      (pss_cons (ps_while PassesOwn.never (pt_truth (pv 3) (by intro _; rfl))
        (pss_cons (ps_asg (pe_bm0 PySem.F.plainAttrs_list PySem.F.slot_list_pop PySem.F.type_list_pop mt_pop (pv 3)) (pg_tup rfl (pgs_cons (pg_name (i := 4) sc_tree_of.nd rfl (.inl rfl)) (pgs_cons (pg_name (i := 5) sc_tree_of.nd rfl (.inl rfl)) (pgs_cons (pg_name (i := 6) sc_tree_of.nd rfl (.inr rfl)) (pgs_cons (pg_name (i := 7) sc_tree_of.nd rfl (.inl rfl)) pgs_nil))))))
        (pss_cons (ps_if (pt_cmpR op_eq (pv 4) (pv 5) (nomark _))
          (pss_one ps_continue)
          pss_nil)
        (pss_cons (ps_set (i := 8) sc_tree_of.nd rfl (.inl rfl) (pe_callB (id := "max") (cr_max rfl) (by rfl) TX.b_max (by decide +kernel) (pa_cons (pe_lc (own := [("flush", 9)]) (by rfl) sc_tree_of.nd (pi_range2 (by rfl) TX.b_range (pa_cons (pv 4) (pa_cons (pv 5) pa_nil))) (blkOk_by (own := [("flush", 9)]) (N := N_tree_of) (sc := defScope s_tree_of) (by decide +kernel)) (fun _ _ _ _ _ => (pg_name (i := 9) sc_tree_of.nd rfl (Or.inl rfl))) (fun _ _ _ _ _ => (pts_one (pt_cmpR op_eq (pe_ix (k_ixT (K := K) rfl) (pv 1) (pv 9) (fun _ _ => rfl)) (pv 6) (nomark _)))) (fun _ _ _ _ _ => (pv 9))) pa_nil)))
        (pss_cons (ps_asg (pv 7) (pg_sub (pv 2) (pv 8) set_list))
        (pss_cons (ps_expr (pe_bm PySem.F.plainAttrs_list PySem.F.slot_list_append PySem.F.type_list_append mt_append (pv 3) (pa_cons (pe_tup (pa_cons (pv 4) (pa_cons (pv 8) (pa_cons (pv 6) (pa_cons (pv 8) pa_nil))))) pa_nil)))
        (pss_one (ps_expr (pe_bm PySem.F.plainAttrs_list PySem.F.slot_list_append PySem.F.type_list_append mt_append (pv 3) (pa_cons (pe_tup (pa_cons (pe_op op_add (pv 8) pe_int) (pa_cons (pv 5) (pa_cons (pe_op op_add (pv 6) pe_int) (pa_cons (pv 8) pa_nil))))) pa_nil))))))))))
      (pss_one (ps_ret (pe_callTy (T := "tuple") (k_tupOfZ (K := K) rfl) (by rfl) TX.b_tuple (by decide +kernel) (pa_cons (pv 2) pa_nil)))))))), ?_⟩
    refine ⟨.ref a, rfl, a, t, rfl, hS, hz, fun H1 p1 s1 h1 => ?_⟩
    have hl : (vi t.rc).length = t.size := by rw [vi_len, T.rc_len]
    refine ⟨sz60 (by simp), fun z nz => ?_⟩
    have s2 : Same H1 (upd H1 z (.lst [.int (-1)])) := same_upd nz
    refine ⟨.ref p1, rfl, p1, _, rfl, .inr (Same.tup s2 h1), z, _, _, rfl, rfl, upd_same, by omega, by omega, sz60 (by simp; omega), fun l nl => ?_⟩
    have s3 := same_upd (o := .lst (List.replicate (((vi t.rc).length : Int)).toNat [V.int (-1)]).flatten) nl
    have ec : (List.replicate (((vi t.rc).length : Int)).toNat [V.int (-1)]).flatten = (List.replicate t.size (-1 : Int)).map V.int := by
      rw [Int.toNat_natCast, hl, List.flatten_replicate_singleton, List.map_replicate]
    rw [ec] at s3 ⊢
    have nl1 : H1 l = none := s2.free nl
    generalize hH3 : upd (upd H1 z (HO.lst [V.int (-1)])) l (HO.lst ((List.replicate t.size (-1 : Int)).map V.int)) = H3 at s3 ⊢
    have hl3 : H3 l = some (.lst ((List.replicate t.size (-1 : Int)).map V.int)) := by rw [← hH3]; exact upd_same
    have s13 : Same H1 H3 := s2.trans s3
    have h13 := Same.tup s13 h1
    refine ⟨.ref p1, rfl, p1, _, rfl, .inr h13, sz60 (by simp), fun u nu => ⟨sz60 (by simp), fun w nw => ?_⟩⟩
    have s4 := same_upd (o := .tup [.int 0, .int ((vi t.rc).length : Int), .int 1, .int (-1)]) nu
    have s5 := same_upd (o := .lst [.ref u]) nw
    have nw1 : H1 w = none := s13.free (s4.free nw)
    have nwl : w ≠ l := fun e => by
      have := s4.free nw
      rw [e, hl3] at this; cases this
    refine ⟨TreeInv K t H1 a p1 l w, ⟨_, none, none, none, none, none, none, [(0, t, 1, -1)], [.ref u], List.replicate t.size (-1 : Int), rfl, rfl, (s13.trans s4).trans s5, s5 _ _ (s4 _ _ hl3), by simp, upd_same, ?_, ?_, ?_, ?_⟩, ?_⟩
    · refine .cons (.tup (Same.tup s5 (.inl (.inl upd_same))) ?_) .nil
      rw [hl]
      have := dp_ints (K := K) (H := upd (upd H3 u (.tup [.int 0, .int (t.size : Int), .int 1, .int (-1)])) w (.lst [.ref u])) [0, (t.size : Int), 1, -1]
      simpa using this
    · intro x hx
      have e : x = (0, t, 1, -1) := by simpa using hx
      rw [e]; exact .root
    · intro k hk h
      exact absurd ⟨Nat.zero_le _, by simpa using hk⟩ (h (0, t, 1, -1) (by simp))
    · simp [todo]
    · rintro m σ H4 ⟨y4, y5, y6, y7, y8, y9, WL, acc, c, rfl, rfl, sm, hc, hcl, hw, hA, hSub, hDone, hlen⟩
      refine ⟨.ref w, rfl, _, .inl ⟨acc, .inl (.inl hw), rfl⟩, ?_⟩
      rcases snoc_cases WL with rfl | ⟨WL, x, rfl⟩
      · -- the end
        cases hA
        refine iteF ?_
        have e : c = t.parOf := int_list_by (fun k hk => hDone k (by rw [T.parOf, T.par_len] at hk; exact hk) (fun x hx => by cases hx)) (by rw [hcl, T.parOf, T.par_len])
        rw [e] at hc
        refine ⟨.ref l, rfl, l, _, rfl, .inl (.inl hc), fun o ob no hd => ?_⟩
        exact q _ o ob ((s1.trans sm).trans (same_upd no)) upd_same hd
      · rw [List.map_append] at hA
        obtain ⟨us, v, rfl, hA1, hv⟩ := DpAll.snoc hA
        have hus := DpAll.len hA1
        rw [List.length_map] at hus
        obtain ⟨off, sb, k, p⟩ := x
        have hsub : Sub t off sb k p := hSub (off, sb, k, p) (by simp)
        have hsl := sub_le hsub
        obtain ⟨b, e, hb⟩ := Dp.intsInv (ns := [(off : Int), ((off + sb.size : Nat) : Int), (k : Int), p]) hv
        cases e
        have ne : (!(us ++ [V.ref b]).isEmpty) = true := by simp
        rw [ne]
        refine iteT ⟨fun σ' H' => ∃ m', m' < todo (WL ++ [(off, sb, k, p)]) ∧ TreeInv K t H1 a p1 l w m' σ' H', fun σ' H' h => h, ?_⟩
        have kp : Keep K H4 (upd H4 w (.lst us)) := But.keep But.upd hw
        have hdl : (us ++ [V.ref b]).dropLast = us := by simp
        refine ⟨.ref w, rfl, .inl ⟨rfl, _, .inl (.inl hw)⟩, w, _, .ref b, rfl, rfl, hw, by simp, ?_⟩
        rw [hdl]
        have sm5 : Same H1 (upd H4 w (.lst us)) := Same.mut sm nw1
        have hc5 : (upd H4 w (.lst us)) l = some (.lst (c.map V.int)) := by rw [upd_ne nwl.symm]; exact hc
        have hA5 := DpAll.keep kp (tf_its WL) hA1
        have hb5 := kp _ _ hb
        generalize hH5 : upd H4 w (.lst us) = H5 at kp sm5 hc5 hA5 hb5 ⊢
        have hw5 : H5 w = some (.lst us) := by rw [← hH5]; exact upd_same
        refine ⟨b, _, rfl, hb5, rfl, _, _, rfl, _, _, rfl, _, _, rfl, _, [], rfl, rfl, ?_⟩
        refine ⟨_, rfl, _, rfl, rfl, _, rfl, ite2 (fun e => ?_) (fun e => ?_)⟩
        · -- an empty interval
          have e0 : (off : Int) = ((off + sb.size : Nat) : Int) := V.int.inj (of_decide_eq_true e)
          have es : sb.size = 0 := by omega
          refine ⟨todo WL, by rw [todo_app]; simp [todo], _, _, _, _, _, _, WL, us, c, rfl, rfl, sm5, hc5, hcl, hw5, hA5, fun x hx => hSub x (List.mem_append_left _ hx), fun j hj h => hDone j hj fun x hx => ?_, ?_⟩
          · rcases List.mem_append.mp hx with hx | hx
            · exact h x hx
            · have e : x = (off, sb, k, p) := by simpa using hx
              rw [e]; show ¬ (off ≤ j ∧ j < off + sb.size); omega
          · rw [todo_app] at hlen; simp [todo] at hlen; omega
        · have es : sb.size ≠ 0 := fun z => e (decide_eq_true (by rw [z]; rfl))
          cases sb with
          | nil => exact absurd rfl es
          | node lf rt =>
            have hsz : (T.node lf rt).size = lf.size + 1 + rt.size := rfl
            have nn : (((off + (T.node lf rt).size : Nat) : Int) - (off : Int)).toNat = (T.node lf rt).size := by omega
            -- root = max([..])
            refine ⟨_, rfl, _, rfl, _, _, rfl, ⟨by omega, by omega, by omega, by omega⟩, fun D nD => ?_⟩
            rw [nn]
            refine lc_fil (lo := (off : Int)) (j := 9) (fun i => decide (V.int ((t.rc.getD (off + i) 0 : Nat) : Int) = V.int (k : Int))) (by omega) nD (fun x => rfl) (fun x => rfl) (fun i H6 Q6 hi s6 q6 => ?_) (fun H6 s6 hD6 => ?_)
            · have ea : (t.rc)[off + i]? = some (t.rc.getD (off + i) 0) := by
                rw [List.getD_eq_getElem?_getD, List.getElem?_eq_getElem (by rw [T.rc_len]; omega)]; rfl
              have ei : (off : Int) + (i : Nat) = ((off + i : Nat) : Int) := by omega
              rw [ei]
              exact ⟨.ref p1, rfl, _, rfl, p1, _, _, _, rfl, rfl, Same.tup (sm5.trans s6) h1, at_vi ea, _, rfl, rfl, _, rfl, q6⟩
            · have em : ((List.range (T.node lf rt).size).filter fun i => decide (V.int ((t.rc.getD (off + i) 0 : Nat) : Int) = V.int (k : Int))).map (fun (i : Nat) => V.int ((off : Int) + (i : Nat))) = (((List.range (T.node lf rt).size).filter fun i => decide (V.int ((t.rc.getD (off + i) 0 : Nat) : Int) = V.int (k : Int))).map (fun (i : Nat) => (off : Int) + (i : Nat))).map V.int := by rw [List.map_map]; rfl
              rw [em] at hD6
              have fT : ∀ i, i < (T.node lf rt).size → (decide (V.int ((t.rc.getD (off + i) 0 : Nat) : Int) = V.int (k : Int)) = true ↔ (T.node lf rt).rc[i]? = some 1) := fun i hi => by
                obtain ⟨v, hv1, hv2⟩ := sub_rc_at hsub hi
                have hv3 := rc_pos _ _ _ hv1
                rw [List.getD_eq_getElem?_getD, hv2, decide_eq_true_iff]
                constructor
                · intro h
                  have h2 := V.int.inj h
                  simp only [Option.getD_some] at h2
                  rw [hv1]; congr 1; omega
                · intro h
                  rw [hv1] at h
                  cases h
                  simp only [Option.getD_some]
                  congr 1
                  omega
              have hroot : (off : Int) + (lf.size : Nat) ∈ ((List.range (T.node lf rt).size).filter fun i => decide (V.int ((t.rc.getD (off + i) 0 : Nat) : Int) = V.int (k : Int))).map (fun (i : Nat) => (off : Int) + (i : Nat)) :=
                List.mem_map.mpr ⟨lf.size, List.mem_filter.mpr ⟨List.mem_range.mpr (by omega), (fT _ (by omega)).mpr (rc_root lf rt)⟩, rfl⟩
              refine ⟨D, _, rfl, .inl (.inl hD6), List.length_pos_of_mem hroot, fun mx hmx hle => ?_⟩
              have emx : mx = ((off + lf.size : Nat) : Int) := by
                obtain ⟨i, hi, rfl⟩ := List.mem_map.mp hmx
                obtain ⟨hi1, hi2⟩ := List.mem_filter.mp hi
                have hi3 := rc_one ((fT i (List.mem_range.mp hi1)).mp hi2)
                have := hle _ hroot
                omega
              subst emx
              have hc6 := s6 _ _ hc5
              have hw6 := s6 _ _ hw5
              have hA6 := DpAll.same s6 hA5
              have sm6 := sm5.trans s6
              -- parents[root] = parent
              refine ⟨_, rfl, .ref l, rfl, _, rfl, l, _, _, off + lf.size, rfl, rfl, hc6, ixN_of (by rw [List.length_map, hcl]; omega), ?_⟩
              have ecs : ((c.map V.int).set (off + lf.size) (V.int p)) = (c.set (off + lf.size) p).map V.int := by rw [List.map_set]
              rw [ecs]
              have kp7 : Keep K H6 (upd H6 l (.lst ((c.set (off + lf.size) p).map V.int))) := But.keep But.upd hc6
              have sm7 : Same H1 (upd H6 l (.lst ((c.set (off + lf.size) p).map V.int))) := Same.mut sm6 nl1
              have hA7 := DpAll.keep kp7 (tf_its WL) hA6
              have hw7 : (upd H6 l (.lst ((c.set (off + lf.size) p).map V.int))) w = some (.lst us) := by rw [upd_ne nwl]; exact hw6
              generalize hH7 : upd H6 l (.lst ((c.set (off + lf.size) p).map V.int)) = H7 at kp7 sm7 hA7 hw7 ⊢
              have hc7 : H7 l = some (.lst ((c.set (off + lf.size) p).map V.int)) := by rw [← hH7]; exact upd_same
              have hlw : WL.length ≤ 300 := by
                have := len_todo WL
                rw [todo_app] at hlen; omega
              -- the left subtree
              refine ⟨.ref w, rfl, .inl ⟨rfl, _, .inl (.inl hw7)⟩, _, rfl, _, rfl, _, rfl, _, rfl, sz60 (by simp), fun u1 nu1 => ?_⟩
              have s8 := same_upd (o := .tup [V.int (off : Int), V.int ((off + lf.size : Nat) : Int), V.int (k : Int), V.int ((off + lf.size : Nat) : Int)]) nu1
              have hw8 := s8 _ _ hw7
              refine ⟨w, _, _, rfl, rfl, hw8, sz61 (by omega), ?_⟩
              have hu8 : Dp K (upd H7 u1 (.tup [V.int (off : Int), V.int ((off + lf.size : Nat) : Int), V.int (k : Int), V.int ((off + lf.size : Nat) : Int)])) (.ref u1) (dIt (off, lf, k, ((off + lf.size : Nat) : Int))) :=
                .tup (.inl (.inl upd_same)) (dp_ints [(off : Int), ((off + lf.size : Nat) : Int), (k : Int), ((off + lf.size : Nat) : Int)])
              have hA8 : DpAll K (upd H7 u1 (.tup [V.int (off : Int), V.int ((off + lf.size : Nat) : Int), V.int (k : Int), V.int ((off + lf.size : Nat) : Int)])) (us ++ [.ref u1]) ((WL ++ [(off, lf, k, ((off + lf.size : Nat) : Int))]).map dIt) := by
                rw [List.map_append]; exact DpAll.append (DpAll.same s8 hA7) (.cons hu8 .nil)
              have hc8 := s8 _ _ hc7
              have sm8 := sm7.trans s8
              generalize upd H7 u1 (.tup [V.int (off : Int), V.int ((off + lf.size : Nat) : Int), V.int (k : Int), V.int ((off + lf.size : Nat) : Int)]) = H8 at s8 hw8 hA8 hc8 sm8 ⊢
              have kp9 : Keep K H8 (upd H8 w (.lst (us ++ [.ref u1]))) := But.keep But.upd hw8
              have sm9 : Same H1 (upd H8 w (.lst (us ++ [.ref u1]))) := Same.mut sm8 nw1
              have hA9 := DpAll.keep kp9 (tf_its _) hA8
              have hc9 : (upd H8 w (.lst (us ++ [.ref u1]))) l = some (.lst ((c.set (off + lf.size) p).map V.int)) := by rw [upd_ne nwl.symm]; exact hc8
              have hw9 : (upd H8 w (.lst (us ++ [.ref u1]))) w = some (.lst (us ++ [.ref u1])) := upd_same
              generalize upd H8 w (.lst (us ++ [.ref u1])) = H9 at kp9 sm9 hA9 hc9 hw9 ⊢
              -- the right subtree
              refine ⟨.ref w, rfl, .inl ⟨rfl, _, .inl (.inl hw9)⟩, _, rfl, _, _, rfl, rfl, _, rfl, _, rfl, _, _, rfl, rfl, _, rfl, sz60 (by simp), fun u2 nu2 => ?_⟩
              have s10 := same_upd (o := .tup [V.int (((off + lf.size : Nat) : Int) + 1), V.int ((off + (T.node lf rt).size : Nat) : Int), V.int ((k : Int) + 1), V.int ((off + lf.size : Nat) : Int)]) nu2
              have hw10 := s10 _ _ hw9
              refine ⟨w, _, _, rfl, rfl, hw10, sz61 (by simp; omega), ?_⟩
              have hu10 : Dp K (upd H9 u2 (.tup [V.int (((off + lf.size : Nat) : Int) + 1), V.int ((off + (T.node lf rt).size : Nat) : Int), V.int ((k : Int) + 1), V.int ((off + lf.size : Nat) : Int)])) (.ref u2) (dIt (off + lf.size + 1, rt, k + 1, ((off + lf.size : Nat) : Int))) := by
                refine .tup (.inl (.inl upd_same)) ?_
                have := dp_ints (K := K) (H := upd H9 u2 (.tup [V.int (((off + lf.size : Nat) : Int) + 1), V.int ((off + (T.node lf rt).size : Nat) : Int), V.int ((k : Int) + 1), V.int ((off + lf.size : Nat) : Int)])) [((off + lf.size : Nat) : Int) + 1, ((off + (T.node lf rt).size : Nat) : Int), (k : Int) + 1, ((off + lf.size : Nat) : Int)]
                have e1 : ((off + lf.size : Nat) : Int) + 1 = ((off + lf.size + 1 : Nat) : Int) := by omega
                have e2 : off + (T.node lf rt).size = off + lf.size + 1 + rt.size := by rw [hsz]; omega
                rw [e1, e2] at this ⊢
                exact this
              have hA10 : DpAll K (upd H9 u2 (.tup [V.int (((off + lf.size : Nat) : Int) + 1), V.int ((off + (T.node lf rt).size : Nat) : Int), V.int ((k : Int) + 1), V.int ((off + lf.size : Nat) : Int)])) ((us ++ [.ref u1]) ++ [.ref u2]) (((WL ++ [(off, lf, k, ((off + lf.size : Nat) : Int))]) ++ [(off + lf.size + 1, rt, k + 1, ((off + lf.size : Nat) : Int))]).map dIt) := by
                rw [List.map_append]; exact DpAll.append (DpAll.same s10 hA9) (.cons hu10 .nil)
              have hc10 := s10 _ _ hc9
              have sm10 := sm9.trans s10
              generalize upd H9 u2 (.tup [V.int (((off + lf.size : Nat) : Int) + 1), V.int ((off + (T.node lf rt).size : Nat) : Int), V.int ((k : Int) + 1), V.int ((off + lf.size : Nat) : Int)]) = H10 at s10 hw10 hA10 hc10 sm10 ⊢
              have kp11 : Keep K H10 (upd H10 w (.lst ((us ++ [.ref u1]) ++ [.ref u2]))) := But.keep But.upd hw10
              refine ⟨_, ?_, _, _, _, _, _, _, (WL ++ [(off, lf, k, ((off + lf.size : Nat) : Int))]) ++ [(off + lf.size + 1, rt, k + 1, ((off + lf.size : Nat) : Int))], (us ++ [.ref u1]) ++ [.ref u2], c.set (off + lf.size) p, rfl, rfl, Same.mut sm10 nw1, ?_, by rw [List.length_set]; exact hcl, upd_same, DpAll.keep kp11 (tf_its _) hA10, fun x hx => ?_, fun j hj h => ?_, ?_⟩
              · simp only [todo_app, todo, hsz]; omega
              · rw [upd_ne nwl.symm]; exact hc10
              · rcases List.mem_append.mp hx with hx | hx
                · rcases List.mem_append.mp hx with hx | hx
                  · exact hSub x (List.mem_append_left _ hx)
                  · have e : x = (off, lf, k, ((off + lf.size : Nat) : Int)) := by simpa using hx
                    rw [e]; exact .left hsub
                · have e : x = (off + lf.size + 1, rt, k + 1, ((off + lf.size : Nat) : Int)) := by simpa using hx
                  rw [e]; exact .right hsub
              · by_cases ej : off + lf.size = j
                · rw [← ej, List.getElem?_set_self (by omega), sub_root hsub]
                · rw [List.getElem?_set_ne ej]
                  refine hDone j hj fun x hx => ?_
                  rcases List.mem_append.mp hx with hx | hx
                  · exact h x (List.mem_append_left _ (List.mem_append_left _ hx))
                  · have e : x = (off, T.node lf rt, k, p) := by simpa using hx
                    rw [e]
                    show ¬ (off ≤ j ∧ j < off + (T.node lf rt).size)
                    have a1 : ¬ (off ≤ j ∧ j < off + lf.size) := h (off, lf, k, ((off + lf.size : Nat) : Int)) (by simp)
                    have a2 : ¬ (off + lf.size + 1 ≤ j ∧ j < off + lf.size + 1 + rt.size) := h (off + lf.size + 1, rt, k + 1, ((off + lf.size : Nat) : Int)) (by simp)
                    omega
              · simp only [todo_app, todo, hsz] at hlen ⊢; omega
end
def dI3 (x : Nat × T × Nat × Int) : PyData := .tuple [.int (x.1 : Int), .int ((x.1 + x.2.1.size : Nat) : Int), .int x.2.2.2]
theorem tf_i3 (L : List (Nat × T × Nat × Int)) : ∀ d, d ∈ L.map dI3 → Tf d := fun d h => by
  obtain ⟨x, _, rfl⟩ := List.mem_map.mp h
  exact .tup (tf_ints [(x.1 : Int), ((x.1 + x.2.1.size : Nat) : Int), x.2.2.2])
def NumInv (K : PySem.W.Frag) (t : T) (H1 : Hp) (a w : Addr) (m : Nat) (σ : L2.St) (H' : Hp) : Prop :=
  ∃ (y2 y3 y4 y5 y6 y7 : Option V) (WL : List (Nat × T × Nat × Int)) (acc : List V), σ = [some (.ref a), some (.ref w), y2, y3, y4, y5, y6, y7] ∧ m = todo WL ∧ Same H1 H' ∧ H' w = some (.lst acc) ∧ DpAll K H' acc (WL.map dI3) ∧
    (∀ x, x ∈ WL → Sub t x.1 x.2.1 x.2.2.1 x.2.2.2) ∧ todo WL ≤ 2 * t.size + 1
theorem parOf_len (t : T) : t.parOf.length = t.size := T.par_len t 0 (-1)
section
variable {P : Program} {w : World} {K : PySem.W.Frag} {mg : Str → Option Value} {base : Heap}
def sp_is_numbered_in_order (K : PySem.W.Frag) : Sp := fun vs H Q _ => ∃ (a : Addr) (t : T), vs = [.ref a] ∧ SqT K H a (t.parOf.map V.int) ∧ t.size ≤ 60 ∧ ∀ H', Same H H' → Q (.bl true) H'
theorem ok_is_numbered_in_order (TX : Tx K mg) : FnOk P w K mg base CX0 1 TX.a_is_numbered_in_order TX.fd_is_numbered_in_order ["parents"] (sp_is_numbered_in_order K) := by
  refine TX.f_is_numbered_in_order.ok sc_is_numbered_in_order (fun vs H Q E h => ?_) (fun cdv A outer s H vs Q E hr h => ?_)
  · obtain ⟨a, t, rfl, _⟩ := h; rfl
  · obtain ⟨a, t, rfl, hS, hz, q⟩ := h
    refine ⟨_, (pss_cons (ps_set (i := 1) sc_is_numbered_in_order.nd rfl (.inl rfl) (pe_lst (pa_cons (pe_tup (pa_cons pe_int (pa_cons (pe_callB (id := "len") (k_len (K := K) rfl) (by rfl) TX.b_len (by decide +kernel) (pa_cons (pv 0) pa_nil)) (pa_cons (pe_glob (v := .int (-1)) (by rfl) TX.c_NO_PARENT ⟨_, rfl⟩) pa_nil)))) pa_nil)))
      (pss_cons (ps_while PassesOwn.never (pt_truth (pv 1) (by intro _; rfl))
        (pss_cons (ps_asg (pe_bm0 PySem.F.plainAttrs_list PySem.F.slot_list_pop PySem.F.type_list_pop mt_pop (pv 1)) (pg_tup rfl (pgs_cons (pg_name (i := 2) sc_is_numbered_in_order.nd rfl (.inl rfl)) (pgs_cons (pg_name (i := 3) sc_is_numbered_in_order.nd rfl (.inl rfl)) (pgs_cons (pg_name (i := 4) sc_is_numbered_in_order.nd rfl (.inr rfl)) pgs_nil)))))
        (pss_cons (ps_if (pt_cmpR op_eq (pv 2) (pv 3) (nomark _))
          (pss_one ps_continue)
          pss_nil)
        (pss_cons (ps_setLc (i := 5) (own := [("node", 7)]) (by rfl) sc_is_numbered_in_order.nd rfl rfl (sw_true rfl rfl rfl (by decide +kernel)) (pi_range2 (by rfl) TX.b_range (pa_cons (pv 2) (pa_cons (pv 3) pa_nil))) (blkOk_by (own := [("node", 7)]) (N := N_is_numbered_in_order) (sc := defScope s_is_numbered_in_order) (by decide +kernel)) (fun _ _ _ _ _ => (pg_name (i := 7) sc_is_numbered_in_order.nd rfl (Or.inl rfl))) (fun _ _ _ _ _ => (pts_one (pt_cmpR op_eq (pe_ix (k_ixT (K := K) rfl) (pv 0) (pv 7) (fun _ _ => rfl)) (pv 4) (nomark _)))) (fun _ _ _ _ _ => (pv 7)))
        (pss_cons (ps_if (pt_cmpR op_ne (pe_callB (id := "len") (k_len (K := K) rfl) (by rfl) TX.b_len (by decide +kernel) (pa_cons (pv 5) pa_nil)) pe_int (nomark _))
          (pss_one (ps_ret pe_bl))
          pss_nil)
        (pss_cons (ps_set (i := 6) sc_is_numbered_in_order.nd rfl (.inl rfl) (pe_ix (k_ixL (K := K) rfl) (pv 5) pe_int (fun _ _ => rfl)))
        (pss_cons (ps_expr (pe_bm PySem.F.plainAttrs_list PySem.F.slot_list_append PySem.F.type_list_append mt_append (pv 1) (pa_cons (pe_tup (pa_cons (pv 2) (pa_cons (pv 6) (pa_cons (pv 6) pa_nil)))) pa_nil)))
        (pss_one (ps_expr (pe_bm PySem.F.plainAttrs_list PySem.F.slot_list_append PySem.F.type_list_append mt_append (pv 1) (pa_cons (pe_tup (pa_cons (pe_op op_add (pv 6) pe_int) (pa_cons (pv 3) (pa_cons (pv 6) pa_nil)))) pa_nil)))))))))))
      (pss_one (ps_ret pe_bl)))), ?_⟩
    have hl : (t.parOf.map V.int).length = t.size := by rw [List.length_map, parOf_len]
    refine ⟨.ref a, rfl, a, _, rfl, .inr hS, sz60 (by simp), fun u nu => ⟨sz60 (by simp), fun w nw => ?_⟩⟩
    have s4 := same_upd (o := .tup [.int 0, .int ((t.parOf.map V.int).length : Int), .int (-1)]) nu
    have s5 := same_upd (o := .lst [.ref u]) nw
    have nw1 : H w = none := s4.free nw
    refine ⟨NumInv K t H a w, ⟨_, none, none, none, none, none, none, [(0, t, 1, -1)], [.ref u], rfl, rfl, s4.trans s5, upd_same, ?_, ?_, ?_⟩, ?_⟩
    · refine .cons (.tup (Same.tup s5 (.inl (.inl upd_same))) ?_) .nil
      rw [hl]
      have := dp_ints (K := K) (H := upd (upd H u (.tup [.int 0, .int (t.size : Int), .int (-1)])) w (.lst [.ref u])) [0, (t.size : Int), -1]
      simpa using this
    · intro x hx
      have e : x = (0, t, 1, -1) := by simpa using hx
      rw [e]; exact .root
    · simp [todo]
    · rintro m σ H4 ⟨y2, y3, y4, y5, y6, y7, WL, acc, rfl, rfl, sm, hw, hA, hSub, hlen⟩
      refine ⟨.ref w, rfl, _, .inl ⟨acc, .inl (.inl hw), rfl⟩, ?_⟩
      rcases snoc_cases WL with rfl | ⟨WL, x, rfl⟩
      · cases hA
        exact iteF (q _ sm)
      · rw [List.map_append] at hA
        obtain ⟨us, v, rfl, hA1, hv⟩ := DpAll.snoc hA
        have hus := DpAll.len hA1
        rw [List.length_map] at hus
        obtain ⟨off, sb, k, p⟩ := x
        have hsub : Sub t off sb k p := hSub (off, sb, k, p) (by simp)
        have hsl := sub_le hsub
        obtain ⟨b, e, hb⟩ := Dp.intsInv (ns := [(off : Int), ((off + sb.size : Nat) : Int), p]) hv
        cases e
        have ne : (!(us ++ [V.ref b]).isEmpty) = true := by simp
        rw [ne]
        refine iteT ⟨fun σ' H' => ∃ m', m' < todo (WL ++ [(off, sb, k, p)]) ∧ NumInv K t H a w m' σ' H', fun σ' H' h => h, ?_⟩
        have kp : Keep K H4 (upd H4 w (.lst us)) := But.keep But.upd hw
        have hdl : (us ++ [V.ref b]).dropLast = us := by simp
        refine ⟨.ref w, rfl, .inl ⟨rfl, _, .inl (.inl hw)⟩, w, _, .ref b, rfl, rfl, hw, by simp, ?_⟩
        rw [hdl]
        have sm5 : Same H (upd H4 w (.lst us)) := Same.mut sm nw1
        have hA5 := DpAll.keep kp (tf_i3 WL) hA1
        have hb5 := kp _ _ hb
        generalize hH5 : upd H4 w (.lst us) = H5 at kp sm5 hA5 hb5 ⊢
        have hw5 : H5 w = some (.lst us) := by rw [← hH5]; exact upd_same
        refine ⟨b, _, rfl, hb5, rfl, _, _, rfl, _, _, rfl, _, [], rfl, rfl, ?_⟩
        refine ⟨_, rfl, _, rfl, rfl, _, rfl, ite2 (fun e => ?_) (fun e => ?_)⟩
        · have e0 : (off : Int) = ((off + sb.size : Nat) : Int) := V.int.inj (of_decide_eq_true e)
          refine ⟨todo WL, by rw [todo_app]; simp [todo], _, _, _, _, _, _, WL, us, rfl, rfl, sm5, hw5, hA5, fun x hx => hSub x (List.mem_append_left _ hx), ?_⟩
          rw [todo_app] at hlen; omega
        · have es : sb.size ≠ 0 := fun z => e (decide_eq_true (by rw [z]; rfl))
          cases sb with
          | nil => exact absurd rfl es
          | node lf rt =>
            have hsz : (T.node lf rt).size = lf.size + 1 + rt.size := rfl
            have nn : (((off + (T.node lf rt).size : Nat) : Int) - (off : Int)).toNat = (T.node lf rt).size := by omega
            refine ⟨_, rfl, _, rfl, _, _, rfl, ⟨by omega, by omega, by omega, by omega⟩, fun D nD => ?_⟩
            rw [nn]
            refine lc_fil (lo := (off : Int)) (j := 7) (fun i => decide (V.int (t.parOf.getD (off + i) 0) = V.int p)) (by omega) nD (fun x => rfl) (fun x => rfl) (fun i H6 Q6 hi s6 q6 => ?_) (fun H6 s6 hD6 => ?_)
            · have ea : (t.parOf.map V.int)[off + i]? = some (V.int (t.parOf.getD (off + i) 0)) := by
                rw [List.getElem?_map, List.getD_eq_getElem?_getD, List.getElem?_eq_getElem (by rw [parOf_len]; omega)]; rfl
              have ei : (off : Int) + (i : Nat) = ((off + i : Nat) : Int) := by omega
              rw [ei]
              exact ⟨.ref a, rfl, _, rfl, a, _, _, _, rfl, rfl, Same.tup (sm5.trans s6) hS, atI_nat ea, _, rfl, rfl, _, rfl, q6⟩
            · have hout := sub_out hsub
              have ef : (List.range (T.node lf rt).size).filter (fun i => decide (V.int (t.parOf.getD (off + i) 0) = V.int p)) = [lf.size] := by
                refine filter_one (by omega) ?_ fun i hi hf => ?_
                · rw [List.getD_eq_getElem?_getD, sub_root hsub]; exact decide_eq_true rfl
                · obtain ⟨qq, hq1, hq2⟩ := sub_par_at hsub hi
                  rw [List.getD_eq_getElem?_getD, hq2] at hf
                  have hf2 : qq = p := V.int.inj (of_decide_eq_true hf)
                  rcases par_in _ _ _ _ _ hq1 with ⟨l', r', e1, e2, _⟩ | ⟨h1, h2, _⟩
                  · cases e1; exact e2
                  · exfalso; rw [hf2] at h1 h2; omega
              rw [ef] at hD6
              have hD6' : H6 D = some (.lst [V.int ((off : Int) + (lf.size : Nat))]) := hD6
              refine ⟨.ref D, rfl, D, _, rfl, .inl (.inl (.inl hD6')), rfl, _, rfl, iteF ?_⟩
              refine ⟨.ref D, rfl, D, _, 0, _, rfl, rfl, .inl (.inl hD6'), rfl, ?_⟩
              have er : (off : Int) + (lf.size : Nat) = ((off + lf.size : Nat) : Int) := by omega
              rw [er]
              have hw7 := s6 _ _ hw5
              have hA7 := DpAll.same s6 hA5
              have sm7 := sm5.trans s6
              have hlw : WL.length ≤ 300 := by
                have := len_todo WL
                rw [todo_app] at hlen; omega
              -- the left subtree
              refine ⟨.ref w, rfl, .inl ⟨rfl, _, .inl (.inl hw7)⟩, _, rfl, _, rfl, _, rfl, sz60 (by simp), fun u1 nu1 => ?_⟩
              have s8 := same_upd (o := .tup [V.int (off : Int), V.int ((off + lf.size : Nat) : Int), V.int ((off + lf.size : Nat) : Int)]) nu1
              have hw8 := s8 _ _ hw7
              refine ⟨w, _, _, rfl, rfl, hw8, sz61 (by omega), ?_⟩
              have hu8 : Dp K (upd H6 u1 (.tup [V.int (off : Int), V.int ((off + lf.size : Nat) : Int), V.int ((off + lf.size : Nat) : Int)])) (.ref u1) (dI3 (off, lf, k, ((off + lf.size : Nat) : Int))) :=
                .tup (.inl (.inl upd_same)) (dp_ints [(off : Int), ((off + lf.size : Nat) : Int), ((off + lf.size : Nat) : Int)])
              have hA8 : DpAll K (upd H6 u1 (.tup [V.int (off : Int), V.int ((off + lf.size : Nat) : Int), V.int ((off + lf.size : Nat) : Int)])) (us ++ [.ref u1]) ((WL ++ [(off, lf, k, ((off + lf.size : Nat) : Int))]).map dI3) := by
                rw [List.map_append]; exact DpAll.append (DpAll.same s8 hA7) (.cons hu8 .nil)
              have sm8 := sm7.trans s8
              generalize upd H6 u1 (.tup [V.int (off : Int), V.int ((off + lf.size : Nat) : Int), V.int ((off + lf.size : Nat) : Int)]) = H8 at s8 hw8 hA8 sm8 ⊢
              have kp9 : Keep K H8 (upd H8 w (.lst (us ++ [.ref u1]))) := But.keep But.upd hw8
              have sm9 : Same H (upd H8 w (.lst (us ++ [.ref u1]))) := Same.mut sm8 nw1
              have hA9 := DpAll.keep kp9 (tf_i3 _) hA8
              have hw9 : (upd H8 w (.lst (us ++ [.ref u1]))) w = some (.lst (us ++ [.ref u1])) := upd_same
              generalize upd H8 w (.lst (us ++ [.ref u1])) = H9 at kp9 sm9 hA9 hw9 ⊢
              -- the right subtree
              refine ⟨.ref w, rfl, .inl ⟨rfl, _, .inl (.inl hw9)⟩, _, rfl, _, _, rfl, rfl, _, rfl, _, rfl, sz60 (by simp), fun u2 nu2 => ?_⟩
              have s10 := same_upd (o := .tup [V.int (((off + lf.size : Nat) : Int) + 1), V.int ((off + (T.node lf rt).size : Nat) : Int), V.int ((off + lf.size : Nat) : Int)]) nu2
              have hw10 := s10 _ _ hw9
              refine ⟨w, _, _, rfl, rfl, hw10, sz61 (by simp; omega), ?_⟩
              have hu10 : Dp K (upd H9 u2 (.tup [V.int (((off + lf.size : Nat) : Int) + 1), V.int ((off + (T.node lf rt).size : Nat) : Int), V.int ((off + lf.size : Nat) : Int)])) (.ref u2) (dI3 (off + lf.size + 1, rt, k + 1, ((off + lf.size : Nat) : Int))) := by
                refine .tup (.inl (.inl upd_same)) ?_
                have := dp_ints (K := K) (H := upd H9 u2 (.tup [V.int (((off + lf.size : Nat) : Int) + 1), V.int ((off + (T.node lf rt).size : Nat) : Int), V.int ((off + lf.size : Nat) : Int)])) [((off + lf.size : Nat) : Int) + 1, ((off + (T.node lf rt).size : Nat) : Int), ((off + lf.size : Nat) : Int)]
                have e1 : ((off + lf.size : Nat) : Int) + 1 = ((off + lf.size + 1 : Nat) : Int) := by omega
                have e2 : off + (T.node lf rt).size = off + lf.size + 1 + rt.size := by rw [hsz]; omega
                rw [e1, e2] at this ⊢
                exact this
              have hA10 : DpAll K (upd H9 u2 (.tup [V.int (((off + lf.size : Nat) : Int) + 1), V.int ((off + (T.node lf rt).size : Nat) : Int), V.int ((off + lf.size : Nat) : Int)])) ((us ++ [.ref u1]) ++ [.ref u2]) (((WL ++ [(off, lf, k, ((off + lf.size : Nat) : Int))]) ++ [(off + lf.size + 1, rt, k + 1, ((off + lf.size : Nat) : Int))]).map dI3) := by
                rw [List.map_append]; exact DpAll.append (DpAll.same s10 hA9) (.cons hu10 .nil)
              have sm10 := sm9.trans s10
              generalize upd H9 u2 (.tup [V.int (((off + lf.size : Nat) : Int) + 1), V.int ((off + (T.node lf rt).size : Nat) : Int), V.int ((off + lf.size : Nat) : Int)]) = H10 at s10 hw10 hA10 sm10 ⊢
              have kp11 : Keep K H10 (upd H10 w (.lst ((us ++ [.ref u1]) ++ [.ref u2]))) := But.keep But.upd hw10
              refine ⟨_, ?_, _, _, _, _, _, _, (WL ++ [(off, lf, k, ((off + lf.size : Nat) : Int))]) ++ [(off + lf.size + 1, rt, k + 1, ((off + lf.size : Nat) : Int))], (us ++ [.ref u1]) ++ [.ref u2], rfl, rfl, Same.mut sm10 nw1, upd_same, DpAll.keep kp11 (tf_i3 _) hA10, fun x hx => ?_, ?_⟩
              · simp only [todo_app, todo, hsz]; omega
              · rcases List.mem_append.mp hx with hx | hx
                · rcases List.mem_append.mp hx with hx | hx
                  · exact hSub x (List.mem_append_left _ hx)
                  · have e : x = (off, lf, k, ((off + lf.size : Nat) : Int)) := by simpa using hx
                    rw [e]; exact .left hsub
                · have e : x = (off + lf.size + 1, rt, k + 1, ((off + lf.size : Nat) : Int)) := by simpa using hx
                  rw [e]; exact .right hsub
              · simp only [todo_app, todo, hsz] at hlen ⊢; omega
def sp_is_tree (K : PySem.W.Frag) : Sp := fun vs H Q _ => ∃ (a : Addr) (t : T), vs = [.ref a] ∧ SqT K H a (t.parOf.map V.int) ∧ t.size ≤ 60 ∧ ∀ H', Same H H' → Q (.bl true) H'
theorem dp_bools_inv {K : PySem.W.Frag} {H : Hp} : ∀ {ns : List Bool} {vs : List V}, DpAll K H vs (ns.map PyData.bool) → vs = ns.map V.bl
  | [], _, .nil => rfl
  | n :: ns, _, .cons a b => by
    cases a
    rw [dp_bools_inv b]
    rfl
theorem ok_is_tree (TX : Tx K mg) : FnOk P w K mg base CX0 2 TX.a_is_tree TX.fd_is_tree ["value"] (sp_is_tree K) := by
  refine TX.f_is_tree.ok sc_is_tree (fun vs H Q E h => ?_) (fun cdv A outer s H vs Q E hr h => ?_)
  · obtain ⟨a, t, rfl, _⟩ := h; rfl
  · obtain ⟨a, t, rfl, hS, hz, q⟩ := h
    refine ⟨_, (pss_cons (ps_if (PW.pt (pw_or (pt_not (pt_val (pe_callB (id := "isinstance") (k_isi (K := K) rfl) (by rfl) TX.b_isinstance (by decide +kernel) (pa_cons (pv 0) (pa_cons (pe_bltn (v := .ty "tuple") (by rfl) TX.b_tuple (by decide +kernel) rfl) pa_nil))))) (pw_or1 (pt_cmpR op_gt (pe_callB (id := "len") (k_len (K := K) rfl) (by rfl) TX.b_len (by decide +kernel) (pa_cons (pv 0) pa_nil)) (pe_glob (v := .int (60)) (by rfl) TX.c_MOST_FLUSHES ⟨_, rfl⟩) (nomark _)))))
        (pss_one (ps_ret pe_bl))
        pss_nil)
      (pss_cons (ps_if (pt_not (pt_val (pe_callB (id := "all") (cr_all rfl) (by rfl) TX.b_all (by decide +kernel) (pa_cons (pe_lc (own := [("parent", 1)]) (by rfl) sc_is_tree.nd (k_piT (K := K) rfl (pv 0)) (blkOk_by (own := [("parent", 1)]) (N := N_is_tree) (sc := defScope s_is_tree) (by decide +kernel)) (fun _ _ _ _ _ => (pg_name (i := 1) sc_is_tree.nd rfl (Or.inl rfl))) (fun _ _ _ _ _ => pts_nil) (fun _ _ _ _ _ => (pe_call (ok_is_int TX) (hr.mono (by decide)) (by rfl) TX.g_is_int TX.f_is_int.kp TX.bd_is_int .nil pass0 (pa_cons (pv 1) pa_nil)))) pa_nil))))
        (pss_one (ps_ret pe_bl))
        pss_nil)
      (pss_one (ps_ret (pe_call (ok_is_numbered_in_order TX) (hr.mono (by decide)) (by rfl) TX.g_is_numbered_in_order TX.f_is_numbered_in_order.kp TX.bd_is_numbered_in_order .nil pass0 (pa_cons (pv 0) pa_nil)))))), ?_⟩
    have hl : (t.parOf.map V.int).length = t.size := by rw [List.length_map, parOf_len]
    refine ⟨.ref a, rfl, .ref a, .ty "tuple", .type "tuple", .type "tuple", true, rfl, .ty _, ty_tup hS, kit_ty (by decide +kernel), true, rfl, iteF ⟨.ref a, rfl, a, _, rfl, .inr hS, _, _, rfl, rfl, _, rfl, decF (by rw [hl]; omega) ?_⟩⟩
    refine ⟨.ref a, rfl, a, rfl, ⟨_, hS⟩, fun D nD => lc_all (K := K) walk_tup ((List.replicate t.size true).map PyData.bool) (by rw [List.length_map, List.length_replicate, hl]) (fun d h => ?_) (by omega) nD (fun H' s' => Same.tup s' hS) ?_ ?_ (fun x σ' H' Q Q' h => h _ _) (fun σ' H' Q Q' h => h _ _)⟩
    · obtain ⟨b, _, rfl⟩ := List.mem_map.mp h
      exact .bl b
    · rintro i x H2 H2' hi s2 ⟨rfl, hx⟩ d hd R hR
      rw [List.getElem?_map] at hx
      cases hp : t.parOf[i]? with
      | none => rw [hp] at hx; cases hx
      | some v =>
        rw [hp] at hx
        cases hx
        refine ⟨rfl, rfl, .int v, rfl, v, rfl, hR _ _ (Same.refl _) ?_⟩
        rw [List.getElem?_map, List.getElem?_replicate, if_pos (by omega)] at hd
        cases hd
        exact .bl true
    · intro H2 acc s2 ha hAcc
      rw [dp_bools_inv hAcc] at ha
      refine ⟨D, List.replicate t.size true, rfl, .inl (.inl ha), _, rfl, ?_⟩
      have e : (List.replicate t.size true).all id = true := by simp
      rw [e]
      exact iteF ⟨.ref a, rfl, a, t, rfl, Same.tup s2 hS, hz, fun H' s' => q H' (s2.trans s')⟩
end
theorem wr_at {t : T} {i : Nat} (h : i < t.size) : t.wr[i]? = some (t.wr.getD i 0) := by
  rw [List.getD_eq_getElem?_getD, List.getElem?_eq_getElem (by rw [T.wr_len]; exact h)]; rfl
theorem rc_atD {t : T} {i : Nat} (h : i < t.size) : t.rc[i]? = some (t.rc.getD i 0) := by
  rw [List.getD_eq_getElem?_getD, List.getElem?_eq_getElem (by rw [T.rc_len]; exact h)]; rfl
theorem par_at {t : T} {i : Nat} (h : i < t.size) : t.parOf[i]? = some (t.parOf.getD i 0) := by
  rw [List.getD_eq_getElem?_getD, List.getElem?_eq_getElem (by rw [parOf_len]; exact h)]; rfl
theorem at_par {t : T} {i : Nat} (h : i < t.size) : atI (t.parOf.map V.int) (i : Int) = some (.int (t.parOf.getD i 0)) := by
  refine atI_nat ?_
  rw [List.getElem?_map, par_at h]; rfl
/-- (left edges, right edges) -/
def dEd (t : T) (i : Nat) : PyData := .tuple [.int ((t.wr.getD i 0 : Int) - 1), .int ((t.rc.getD i 0 : Int) - 1)]
def dEdges (t : T) : List PyData := (List.range t.size).map (dEd t)
theorem tf_edges (t : T) : ∀ d, d ∈ dEdges t → Tf d := fun d h => by
  obtain ⟨i, _, rfl⟩ := List.mem_map.mp h
  exact .tup (tf_ints [((t.wr.getD i 0 : Int) - 1), ((t.rc.getD i 0 : Int) - 1)])
def EdInv (t : T) (H : Hp) (a : Addr) (i : Nat) (m : Nat) (σ : L2.St) (H' : Hp) : Prop := ∃ (lf rt : Int) (c : Nat), σ = [some (.ref a), some (.int (i : Int)), some (.int lf), some (.int rt), some (.int (c : Int))] ∧ H' = H ∧ c < t.size ∧ m = t.wr.getD c 0 + t.rc.getD c 0 ∧
  lf + (t.wr.getD c 0 : Int) = (t.wr.getD i 0 : Int) ∧ rt + (t.rc.getD c 0 : Int) = (t.rc.getD i 0 : Int)
section
variable {P : Program} {w : World} {K : PySem.W.Frag} {mg : Str → Option Value} {base : Heap}
def sp_edges_above (K : PySem.W.Frag) : Sp := fun vs H Q _ => ∃ (a : Addr) (t : T) (i : Nat), vs = [.ref a, .int (i : Int)] ∧ SqT K H a (t.parOf.map V.int) ∧ i < t.size ∧ ∀ H' p, Same H H' → Dp K H' (.ref p) (dEd t i) → Q (.ref p) H'
theorem ok_edges_above (TX : Tx K mg) : FnOk P w K mg base CX0 1 TX.a_edges_above TX.fd_edges_above ["tree", "node"] (sp_edges_above K) := by
  refine TX.f_edges_above.ok sc_edges_above (fun vs H Q E h => ?_) (fun cdv A outer s H vs Q E hr h => ?_)
  · obtain ⟨a, t, i, rfl, _⟩ := h; rfl
  · obtain ⟨a, t, i, rfl, hS, hi, q⟩ := h
    refine ⟨_, (pss_cons (ps_set (i := 2) sc_edges_above.nd rfl (.inl rfl) pe_int)
      (pss_cons (ps_set (i := 3) sc_edges_above.nd rfl (.inl rfl) pe_int)
      (pss_cons (ps_set (i := 4) sc_edges_above.nd rfl (.inl rfl) (pv 1))
      (pss_cons (ps_while PassesOwn.never (pt_cmpR op_ne (pe_ix (k_ixT (K := K) rfl) (pv 0) (pv 4) (fun _ _ => rfl)) (pe_glob (v := .int (-1)) (by rfl) TX.c_NO_PARENT ⟨_, rfl⟩) (nomark _))
        (pss_cons (ps_if (pt_cmpR op_lt (pv 4) (pe_ix (k_ixT (K := K) rfl) (pv 0) (pv 4) (fun _ _ => rfl)) (nomark _))
          (pss_one (ps_aug (i := 2) sc_edges_above.nd rfl (.inl rfl) pe_int ip_add))
          (pss_one (ps_aug (i := 3) sc_edges_above.nd rfl (.inl rfl) pe_int ip_add)))
        (pss_one (ps_set (i := 4) sc_edges_above.nd rfl (.inl rfl) (pe_ix (k_ixT (K := K) rfl) (pv 0) (pv 4) (fun _ _ => rfl))))))
      (pss_one (ps_ret (pe_tup (pa_cons (pv 2) (pa_cons (pv 3) pa_nil))))))))), ?_⟩
    refine ⟨.int (i : Int), rfl, EdInv t H a i, ⟨_, 0, 0, i, rfl, rfl, hi, rfl, by omega, by omega⟩, ?_⟩
    rintro m σ H' ⟨lf, rt, c, rfl, rfl, hc, rfl, e1, e2⟩
    refine ⟨.ref a, rfl, _, rfl, a, _, _, _, rfl, rfl, hS, at_par hc, rfl, _, rfl, ?_⟩
    have hp := par_at hc
    rcases up t 0 (-1) c _ hp with ⟨f1, f2, f3⟩ | ⟨j, f1, f2, f3, f4, f5⟩
    · rw [f1]
      refine iteF ?_
      refine ⟨_, rfl, _, rfl, sz60 (by simp), fun p np => q _ p (same_upd np) (.tup (.inl (.inl upd_same)) ?_)⟩
      rw [f2] at e1
      rw [f3] at e2
      have := dp_ints (K := K) (H := upd H' p (HO.tup [V.int lf, V.int rt])) [lf, rt]
      have g1 : (t.wr.getD i 0 : Int) - 1 = lf := by omega
      have g2 : (t.rc.getD i 0 : Int) - 1 = rt := by omega
      rw [g1, g2]
      exact this
    · have ej : t.parOf.getD c 0 = (j : Int) := by rw [f1]; omega
      rw [ej]
      have nj : (!decide (V.int (j : Int) = V.int (-1))) = true := by
        have : ¬ V.int (j : Int) = V.int (-1) := fun z => by have := V.int.inj z; omega
        rw [decide_eq_false this]; rfl
      have hc1 := wr_pos hc
      have hc2 := rc_posD hc
      refine iteB1 nj ⟨fun σ' H'' => ∃ m', m' < t.wr.getD c 0 + t.rc.getD c 0 ∧ EdInv t H' a i m' σ' H'', fun _ _ h => h, ?_⟩
      refine ⟨_, rfl, .ref a, rfl, _, rfl, a, _, _, _, rfl, rfl, hS, at_par hc, _, _, rfl, rfl, _, rfl, ?_⟩
      rw [ej]
      refine ite2 (fun h => ?_) (fun h => ?_)
      · have hcj : c < j := by have := of_decide_eq_true h; omega
        obtain ⟨g1, g2⟩ := f4 hcj
        refine ⟨_, rfl, _, _, rfl, rfl, .ref a, rfl, _, rfl, a, _, _, _, rfl, rfl, hS, at_par hc, ?_⟩
        rw [ej]
        exact ⟨_, by omega, lf + 1, rt, j, rfl, rfl, f2, rfl, by omega, by omega⟩
      · have hcj : j < c := by
          have : ¬ ((c : Int) < (j : Int)) := fun z => h (decide_eq_true z)
          omega
        obtain ⟨g1, g2⟩ := f5 hcj
        refine ⟨_, rfl, _, _, rfl, rfl, .ref a, rfl, _, rfl, a, _, _, _, rfl, rfl, hS, at_par hc, ?_⟩
        rw [ej]
        exact ⟨_, by omega, lf, rt + 1, j, rfl, rfl, f2, rfl, by omega, by omega⟩
def sp_edges (K : PySem.W.Frag) : Sp := fun vs H Q _ => ∃ (a : Addr) (t : T), vs = [.ref a] ∧ SqT K H a (t.parOf.map V.int) ∧ t.size ≤ 60 ∧ ∀ H' p, Same H H' → Dp K H' (.ref p) (.tuple (dEdges t)) → Q (.ref p) H'
theorem ok_edges (TX : Tx K mg) : FnOk P w K mg base CX0 3 TX.a_edges TX.fd_edges ["tree"] (sp_edges K) := by
  refine TX.f_edges.ok sc_edges (fun vs H Q E h => ?_) (fun cdv A outer s H vs Q E hr h => ?_)
  · obtain ⟨a, t, rfl, _⟩ := h; rfl
  · obtain ⟨a, t, rfl, hS, hz, q⟩ := h
    refine ⟨_, (pss_cons (ps_if (pt_not (pt_val (pe_call (ok_is_tree TX) (hr.mono (by decide)) (by rfl) TX.g_is_tree TX.f_is_tree.kp TX.bd_is_tree .nil pass0 (pa_cons (pv 0) pa_nil))))
        (pss_one ps_never)
        pss_nil)
      (pss_one (ps_ret (pe_callTy (T := "tuple") (k_tupOf (K := K) rfl) (by rfl) TX.b_tuple (by decide +kernel) (pa_cons (pe_lc (own := [("node", 1)]) (by rfl) sc_edges.nd (pi_range1 (by rfl) TX.b_range (pa_cons (pe_callB (id := "len") (k_len (K := K) rfl) (by rfl) TX.b_len (by decide +kernel) (pa_cons (pv 0) pa_nil)) pa_nil)) (blkOk_by (own := [("node", 1)]) (N := N_edges) (sc := defScope s_edges) (by decide +kernel)) (fun _ _ _ _ _ => (pg_name (i := 1) sc_edges.nd rfl (Or.inl rfl))) (fun _ _ _ _ _ => pts_nil) (fun _ _ _ _ _ => (pe_call (ok_edges_above TX) (hr.mono (by decide)) (by rfl) TX.g_edges_above TX.f_edges_above.kp TX.bd_edges_above .nil pass0 (pa_cons (pv 0) (pa_cons (pv 1) pa_nil))))) pa_nil))))), ?_⟩
    have hl : (t.parOf.map V.int).length = t.size := by rw [List.length_map, parOf_len]
    refine ⟨.ref a, rfl, a, t, rfl, hS, hz, fun H1 s1 => ⟨true, rfl, iteF ?_⟩⟩
    have hS1 := Same.tup s1 hS
    refine ⟨.ref a, rfl, a, _, rfl, .inr hS1, _, rfl, by omega, by omega, fun D nD => ?_⟩
    rw [hl, Int.toNat_natCast]
    refine lc_all (K := K) walk_range (dEdges t) (by simp [dEdges]) (tf_edges t) (by omega) nD (fun _ _ => trivial) ?_ ?_ (fun x σ' H' Q Q' h => h _ _) (fun σ' H' Q Q' h => h _ _)
    · rintro i x H2 H2' hi s2 ⟨rfl, rfl⟩ d hd R hR
      have ei : (0 : Int) + (i : Nat) = (i : Int) := by omega
      show gName 1 (V.int ((0 : Int) + (i : Nat))) _ _ _
      rw [ei]
      have ed : d = dEd t i := by
        rw [dEdges, List.getElem?_map, List.getElem?_range hi] at hd
        exact (Option.some.inj hd).symm
      subst ed
      exact ⟨rfl, rfl, .ref a, rfl, _, rfl, a, t, i, rfl, Same.tup s2 hS1, hi, fun H' p s' h' => hR _ _ s' h'⟩
    · intro H2 acc s2 ha hAcc
      refine ⟨D, acc, rfl, .inl ⟨.inl (.inl ha), fun o no => ?_⟩⟩
      exact q _ o ((s1.trans s2).trans (same_upd no)) (.tup (.inl (.inl upd_same)) (DpAll.same (same_upd no) hAcc))
def sp_schedule_of (K : PySem.W.Frag) : Sp := fun vs H Q _ => ∃ (a : Addr) (t : T), vs = [.ref a] ∧ SqT K H a (t.parOf.map V.int) ∧ t.size ≤ 60 ∧ ∀ H' p, Same H H' → SqT K H' p (vi t.sch) → Q (.ref p) H'
theorem ok_schedule_of (TX : Tx K mg) : FnOk P w K mg base CX0 4 TX.a_schedule_of TX.fd_schedule_of ["tree"] (sp_schedule_of K) := by
  refine TX.f_schedule_of.ok sc_schedule_of (fun vs H Q E h => ?_) (fun cdv A outer s H vs Q E hr h => ?_)
  · obtain ⟨a, t, rfl, _⟩ := h; rfl
  · obtain ⟨a, t, rfl, hS, hz, q⟩ := h
    refine ⟨_, (pss_cons (ps_set (i := 1) sc_schedule_of.nd rfl (.inl rfl) (pe_lst pa_nil))
      (pss_cons (ps_set (i := 2) sc_schedule_of.nd rfl (.inl rfl) pe_int)
      (pss_cons (ps_for PassesOwn.never rfl (k_piT (K := K) rfl (pe_call (ok_edges TX) (hr.mono (by decide)) (by rfl) TX.g_edges TX.f_edges.kp TX.bd_edges .nil pass0 (pa_cons (pv 0) pa_nil))) (pg_tup rfl (pgs_cons (pg_name (i := 3) sc_schedule_of.nd rfl (.inl rfl)) (pgs_cons (pg_name (i := 4) sc_schedule_of.nd rfl (.inl rfl)) pgs_nil)))
        (pss_cons (ps_set (i := 5) sc_schedule_of.nd rfl (.inl rfl) (pe_op op_add (pv 4) pe_int))
        (pss_cons (ps_expr (pe_bm PySem.F.plainAttrs_list PySem.F.slot_list_append PySem.F.type_list_append mt_append (pv 1) (pa_cons (pe_op op_sub (pe_op op_add (pv 2) pe_int) (pv 5)) pa_nil)))
        (pss_one (ps_set (i := 2) sc_schedule_of.nd rfl (.inl rfl) (pv 5))))))
      (pss_one (ps_ret (pe_callTy (T := "tuple") (k_tupOf (K := K) rfl) (by rfl) TX.b_tuple (by decide +kernel) (pa_cons (pv 1) pa_nil))))))), ?_⟩
    refine ⟨sz60 (by simp), fun l nl => ?_⟩
    have s0 : Same H (upd H l (.lst [])) := same_upd nl
    refine ⟨.ref a, rfl, a, t, rfl, Same.tup s0 hS, hz, fun H1 p1 s1 h1 => ?_⟩
    obtain ⟨p1', xs, e, hX, hA⟩ := Dp.tupInv h1
    cases e
    have hl := DpAll.len hA
    have hle : (dEdges t).length = t.size := by simp [dEdges]
    rw [hle] at hl
    refine ⟨p1, rfl, ⟨_, hX⟩, for_tup (K := K) (xs := xs) (fun i σ H' => ∃ y3 y4 y5, σ = [some (.ref a), some (.ref l), some (.int ((pre t i).runs : Int)), y3, y4, y5] ∧ Same H H' ∧ Keep K H1 H' ∧ H' l = some (.lst (vi (t.sch.take i))))
      ⟨none, none, none, rfl, s0.trans s1, Keep.refl, s1 _ _ upd_same⟩ (fun i σ H' _ ⟨_, _, _, _, _, k, _⟩ => k _ _ hX) ?_ ?_⟩
    · rintro i x σ H2 hx ⟨y3, y4, y5, rfl, s2, k2, hl2⟩
      have hi : i < t.size := by rw [← hl]; exact (List.getElem?_eq_some_iff.mp hx).1
      have hd : (dEdges t)[i]? = some (dEd t i) := by rw [dEdges, List.getElem?_map, List.getElem?_range hi]; rfl
      obtain ⟨v, g1, g2⟩ := DpAll.get (DpAll.keep k2 (tf_edges t) hA) hd
      rw [hx] at g1
      cases g1
      obtain ⟨b, e, g3⟩ := Dp.intsInv (ns := [((t.wr.getD i 0 : Int) - 1), ((t.rc.getD i 0 : Int) - 1)]) g2
      cases e
      obtain ⟨m, hm⟩ : ∃ m, t.sch[i]? = some m := ⟨_, List.getElem?_eq_getElem (show i < t.sch.length by rw [T.sch_len]; exact hi)⟩
      obtain ⟨f1, f2⟩ := pre_succ hm
      have f3 := rc_at hm
      rw [rc_atD hi] at f3
      have f4 : t.rc.getD i 0 = (pre t i).runs - m + 1 := Option.some.inj f3
      have f5 := T.push_runs _ _ f2
      refine ⟨b, _, rfl, g3, rfl, _, _, rfl, _, [], rfl, rfl, ?_⟩
      refine ⟨_, rfl, _, _, rfl, rfl, ?_⟩
      refine ⟨.ref l, rfl, .inl ⟨rfl, _, .inl (.inl hl2)⟩, _, rfl, _, _, rfl, rfl, _, rfl, _, _, rfl, rfl, l, _, _, rfl, rfl, hl2, sz61 (by rw [vi_len, List.length_take]; omega), ?_⟩
      refine ⟨_, rfl, ?_⟩
      refine ⟨some (V.int ((t.wr.getD i 0 : Int) - 1)), some (V.int ((t.rc.getD i 0 : Int) - 1)), some (V.int ((t.rc.getD i 0 : Int) - 1 + 1)), ?_, Same.mut s2 nl, k2.trans (But.keep But.upd hl2), ?_⟩
      · rw [f1, f5, ← f4, show (t.rc.getD i 0 : Int) = (t.rc.getD i 0 : Int) - 1 + 1 by omega]
        rw [show (t.rc.getD i 0 : Int) - 1 + 1 - 1 = (t.rc.getD i 0 : Int) - 1 by omega]
        rfl
      · rw [List.take_add_one, hm, vi_app]
        have e : ((pre t i).runs : Int) + 1 - ((t.rc.getD i 0 : Int) - 1 + 1) = (m : Int) := by rw [f4]; omega
        dsimp only
        rw [e]
        exact upd_same
    · rintro σ H2 ⟨y3, y4, y5, rfl, s2, k2, hl2⟩
      rw [hl, List.take_of_length_le (by rw [T.sch_len]; omega)] at hl2
      refine ⟨.ref l, rfl, l, _, rfl, .inl ⟨.inl (.inl hl2), fun o no => ?_⟩⟩
      exact q _ o (s2.trans (same_upd no)) (.inl (.inl upd_same))
def sp_mirrored_node (K : PySem.W.Frag) : Sp := fun vs H Q _ => ∃ n l : Int, vs = [.int n, .int l] ∧ Q (.int (mirN (l + 1) n)) H
theorem ok_mirrored_node (TX : Tx K mg) : FnOk P w K mg base CX0 1 TX.a_mirrored_node TX.fd_mirrored_node ["node", "last"] (sp_mirrored_node K) := by
  refine TX.f_mirrored_node.ok sc_mirrored_node (fun vs H Q E h => ?_) (fun cdv A outer s H vs Q E hr h => ?_)
  · obtain ⟨n, l, rfl, _⟩ := h; rfl
  · obtain ⟨n, l, rfl, q⟩ := h
    refine ⟨_, (pss_one (ps_ret (pe_ifExp (pt_cmpR op_eq (pv 0) (pe_glob (v := .int (-1)) (by rfl) TX.c_NO_PARENT ⟨_, rfl⟩) (nomark _)) (pe_glob (v := .int (-1)) (by rfl) TX.c_NO_PARENT ⟨_, rfl⟩) (pe_op op_sub (pv 1) (pv 0))))), ?_⟩
    refine ⟨_, rfl, rfl, _, rfl, ite2 (fun e => ?_) (fun e => ?_)⟩
    · have e0 : n = -1 := V.int.inj (of_decide_eq_true e)
      unfold mirN at q
      rw [if_pos e0] at q
      exact q
    · have e0 : ¬ n = -1 := fun z => e (decide_eq_true (by rw [z]))
      unfold mirN at q
      rw [if_neg e0, show l + 1 - 1 - n = l - n by omega] at q
      exact ⟨_, rfl, _, rfl, _, _, rfl, rfl, q⟩
def sp_mirror (K : PySem.W.Frag) : Sp := fun vs H Q _ => ∃ (a : Addr) (t : T), vs = [.ref a] ∧ SqT K H a (vi t.sch) ∧ t.size ≤ 60 ∧ ∀ H' p, Same H H' → SqT K H' p (vi t.mir.sch) → Q (.ref p) H'
theorem walk_revT {K : PySem.W.Frag} {a : Addr} {xs : List V} : Walk (RT.ItvT K a xs.length) xs.length (fun H => SqT K H a xs) (fun i H x H' => H' = H ∧ xs[xs.length - 1 - i]? = some x) := by
  refine ⟨fun i H hi hG => ?_, fun H hG => ?_, fun i H x H' hi hG y => ?_⟩
  · exact ⟨hi, xs, xs[xs.length - 1 - i], hG, List.getElem?_eq_getElem (by omega)⟩
  · exact Nat.le_refl _
  · exact ⟨y.1, y.2 xs hG⟩
theorem ok_mirror (TX : Tx K mg) : FnOk P w K mg base CX0 8 TX.a_mirror TX.fd_mirror ["schedule"] (sp_mirror K) := by
  refine TX.f_mirror.ok sc_mirror (fun vs H Q E h => ?_) (fun cdv A outer s H vs Q E hr h => ?_)
  · obtain ⟨a, t, rfl, _⟩ := h; rfl
  · obtain ⟨a, t, rfl, hS, hz, q⟩ := h
    refine ⟨_, (pss_cons (ps_set (i := 1) sc_mirror.nd rfl (.inl rfl) (pe_call (ok_tree_of TX) (hr.mono (by decide)) (by rfl) TX.g_tree_of TX.f_tree_of.kp TX.bd_tree_of .nil pass0 (pa_cons (pv 0) pa_nil)))
      (pss_cons (ps_set (i := 2) sc_mirror.nd rfl (.inr rfl) (pe_op op_sub (pe_callB (id := "len") (k_len (K := K) rfl) (by rfl) TX.b_len (by decide +kernel) (pa_cons (pv 1) pa_nil)) pe_int))
      (pss_one (ps_ret (pe_call (ok_schedule_of TX) (hr.mono (by decide)) (by rfl) TX.g_schedule_of TX.f_schedule_of.kp TX.bd_schedule_of .nil pass0 (pa_cons (pe_callTy (T := "tuple") (k_tupOf (K := K) rfl) (by rfl) TX.b_tuple (by decide +kernel) (pa_cons (pe_lc (own := [("parent", 3)]) (by rfl) sc_mirror.nd (RT.pi_revA (by rfl) TX.b_reversed (pv 1)) (blkOk_by (own := [("parent", 3)]) (N := N_mirror) (sc := defScope s_mirror) (by decide +kernel)) (fun _ _ _ _ _ => (pg_name (i := 3) sc_mirror.nd rfl (Or.inl rfl))) (fun _ _ _ _ _ => pts_nil) (fun _ _ _ _ _ => (pe_call (ok_mirrored_node TX) (hr.mono (by decide)) (by rfl) TX.g_mirrored_node TX.f_mirrored_node.kp TX.bd_mirrored_node .nil pass0 (pa_cons (pv 3) (pa_cons (pv 2) pa_nil))))) pa_nil)) pa_nil)))))), ?_⟩
    have hl : (t.parOf.map V.int).length = t.size := by rw [List.length_map, parOf_len]
    refine ⟨.ref a, rfl, a, t, rfl, hS, hz, fun H1 p1 ob s1 h1' _ => ?_⟩
    have h1 : SqT K H1 p1 (t.parOf.map V.int) := .inl (.inr ⟨ob, h1'⟩)
    refine ⟨.ref p1, rfl, p1, _, rfl, .inr h1, _, _, rfl, rfl, ?_⟩
    refine ⟨.ref p1, rfl, p1, _, rfl, .inr ⟨h1, fun D nD => ?_⟩⟩
    refine lc_all (K := K) walk_revT (t.mir.parOf.map PyData.int) (by rw [List.length_map, parOf_len, mir_size, hl]) (tf_ints _) (by omega) nD (fun H' s' => Same.tup s' h1) ?_ ?_ (fun x σ' H' Q Q' h => h _ _) (fun σ' H' Q Q' h => h _ _)
    · rintro i x H2 H2' hi s2 ⟨rfl, hx⟩ d hd R hR
      rw [hl] at hx hi
      rw [List.getElem?_map, par_at (by omega)] at hx
      cases hx
      refine ⟨rfl, rfl, _, rfl, _, rfl, _, _, rfl, hR _ _ (Same.refl _) ?_⟩
      rw [List.getElem?_map, mir_parOf, List.getElem?_map, List.getElem?_reverse (by rw [parOf_len]; exact hi), parOf_len, par_at (by omega)] at hd
      have ed : d = .int (mirN t.size (t.parOf.getD (t.size - 1 - i) 0)) := (Option.some.inj hd).symm
      rw [ed, hl, show ((t.size : Int) - 1 + 1) = t.size by omega]
      exact .int _
    · intro H2 acc s2 ha hAcc
      rw [dp_ints_inv hAcc] at ha
      refine ⟨D, _, rfl, .inl ⟨.inl (.inl ha), fun o no => ?_⟩⟩
      exact ⟨o, t.mir, rfl, .inl (.inl upd_same), by rw [mir_size]; exact hz, fun H' p s' h' => q H' p (((s1.trans s2).trans (same_upd no)).trans s') h'⟩
end
theorem dpBoolsI {K : PySem.W.Frag} {H : Hp} : ∀ {vs : List V} {bs : List Bool}, DpAll K H vs (bs.map PyData.bool) → vs = bs.map V.bl
  | _, [], .nil => rfl
  | _, _ :: _, .cons a b => by
    cases a
    rw [dpBoolsI b]; rfl
section
variable {P : Program} {w : World} {K : PySem.W.Frag} {mg : Str → Option Value} {base : Heap}
/-- sizes or reads -/
def Lds (ns : List Int) : Prop := ∀ x, x ∈ ns → 0 ≤ x ∧ x ≤ 1000000000
def sp_are_loads (K : PySem.W.Frag) : Sp := fun vs H Q _ => ∃ (a : Addr) (ns : List Int) (lo hi : Int), vs = [.ref a, .int lo, .int hi] ∧ SqT K H a (ns.map V.int) ∧ Lds ns ∧ lo ≤ (ns.length : Int) ∧ (ns.length : Int) ≤ hi ∧ ns.length ≤ 1000 ∧ ∀ H', Same H H' → Q (.bl true) H'
theorem ok_are_loads (TX : Tx K mg) : FnOk P w K mg base CX0 4 TX.a_are_loads TX.fd_are_loads ["value", "fewest", "most"] (sp_are_loads K) := by
  refine TX.f_are_loads.ok sc_are_loads (fun vs H Q E h => ?_) (fun cdv A outer s H vs Q E hr h => ?_)
  · obtain ⟨a, ns, lo, hi, rfl, _⟩ := h; rfl
  · obtain ⟨a, ns, lo, hi, rfl, hS, hL, h1, h2, h3, q⟩ := h
    have hlen : ((ns.map V.int).length : Int) = (ns.length : Int) := by rw [List.length_map]
    refine ⟨_, (pss_cons (ps_if (PW.pt (pw_or (pt_not (pt_val (pe_callB (id := "isinstance") (k_isi (K := K) rfl) (by rfl) TX.b_isinstance (by decide +kernel) (pa_cons (pv 0) (pa_cons (pe_bltn (v := .ty "tuple") (by rfl) TX.b_tuple (by decide +kernel) rfl) pa_nil))))) (pw_or1 (pt_not (pt_chain op_le op_le (pv 1) (pe_callB (id := "len") (k_len (K := K) rfl) (by rfl) TX.b_len (by decide +kernel) (pa_cons (pv 0) pa_nil)) (pv 2))))))
        (pss_one (ps_ret pe_bl))
        pss_nil)
      (pss_one (ps_ret (pe_callB (id := "all") (cr_all rfl) (by rfl) TX.b_all (by decide +kernel) (pa_cons (pe_lc (own := [("load", 3)]) (by rfl) sc_are_loads.nd (k_piT (K := K) rfl (pv 0)) (blkOk_by (own := [("load", 3)]) (N := N_are_loads) (sc := defScope s_are_loads) (by decide +kernel)) (fun _ _ _ _ _ => (pg_name (i := 3) sc_are_loads.nd rfl (Or.inl rfl))) (fun _ _ _ _ _ => pts_nil) (fun _ _ _ _ _ => (pe_call (ok_is_count_up_to TX) (hr.mono (by decide)) (by rfl) TX.g_is_count_up_to TX.f_is_count_up_to.kp TX.bd_is_count_up_to .nil pass0 (pa_cons (pv 3) (pa_cons (pe_glob (v := .int (1000000000)) (by rfl) TX.c_MOST_LOAD ⟨_, rfl⟩) pa_nil))))) pa_nil))))), ?_⟩
    refine ⟨.ref a, rfl, .ref a, .ty "tuple", .type "tuple", .type "tuple", true, rfl, .ty _, ty_tup hS, kit_ty (by decide +kernel), true, rfl, iteF ⟨_, rfl, .ref a, rfl, a, _, rfl, .inr hS, _, _, rfl, rfl, _, rfl, ?_⟩⟩
    refine decT (by rw [hlen]; exact h1) ⟨_, rfl, _, _, rfl, rfl, _, rfl, iteB0 (by rw [hlen, decide_eq_true h2]; rfl) ?_⟩
    refine ⟨.ref a, rfl, a, rfl, ⟨_, hS⟩, fun D nD => ?_⟩
    refine lc_all (K := K) (walk_tup (xs := ns.map V.int)) ((List.replicate ns.length true).map PyData.bool) (by rw [List.length_map, List.length_replicate, List.length_map]) (fun d h => by obtain ⟨b, _, rfl⟩ := List.mem_map.mp h; exact .bl b) (by rw [List.length_map]; exact h3) nD (fun H' s' => Same.tup s' hS) ?_ ?_ (fun x σ' H' Q Q' h => h _ _) (fun σ' H' Q Q' h => h _ _)
    · rintro i x Hx Hx' hi sx ⟨rfl, hx⟩ d hd R hR
      rw [List.getElem?_map, Option.map_eq_some_iff] at hx
      obtain ⟨z, hz, rfl⟩ := hx
      have hz2 := hL z (List.mem_of_getElem? hz)
      refine ⟨rfl, rfl, _, rfl, z, 1000000000, rfl, hR _ _ (Same.refl _) ?_⟩
      rw [decide_eq_true hz2.1, decide_eq_true hz2.2]
      rw [List.getElem?_map, List.getElem?_replicate, if_pos (by rw [List.length_map] at hi; exact hi)] at hd
      cases hd
      exact .bl true
    · intro H2 acc s2 ha hA
      rw [dpBoolsI hA] at ha
      refine ⟨D, List.replicate ns.length true, rfl, .inl (.inl ha), ?_⟩
      have e : (List.replicate ns.length true).all id = true := by simp
      rw [e]
      exact q _ s2
def sp_check_sizes (K : PySem.W.Frag) : Sp := fun vs H Q _ => ∃ (a : Addr) (ns : List Int) (lo hi : Int), vs = [.ref a, .int lo, .int hi] ∧ SqT K H a (ns.map V.int) ∧ Lds ns ∧ lo ≤ (ns.length : Int) ∧ (ns.length : Int) ≤ hi ∧ ns.length ≤ 1000 ∧ ∀ H', Same H H' → Q .non H'
theorem ok_check_sizes (TX : Tx K mg) : FnOk P w K mg base CX0 5 TX.a_check_sizes TX.fd_check_sizes ["sizes", "fewest", "most"] (sp_check_sizes K) := by
  refine TX.f_check_sizes.ok sc_check_sizes (fun vs H Q E h => ?_) (fun cdv A outer s H vs Q E hr h => ?_)
  · obtain ⟨a, ns, lo, hi, rfl, _⟩ := h; rfl
  · obtain ⟨a, ns, lo, hi, rfl, hS, hL, h1, h2, h3, q⟩ := h
    refine ⟨_, (pss_one (ps_if (pt_not (pt_val (pe_call (ok_are_loads TX) (hr.mono (by decide)) (by rfl) TX.g_are_loads TX.f_are_loads.kp TX.bd_are_loads .nil pass0 (pa_cons (pv 0) (pa_cons (pv 1) (pa_cons (pv 2) pa_nil))))))
        (pss_one ps_never)
        pss_nil)), ?_⟩
    exact ⟨.ref a, rfl, .int lo, rfl, .int hi, rfl, a, ns, lo, hi, rfl, hS, hL, h1, h2, h3, fun H' s' => ⟨true, rfl, iteF (q H' s')⟩⟩
def sp_check_reads (K : PySem.W.Frag) : Sp := fun vs H Q _ => ∃ (a : Addr) (ns : List Int), vs = [.ref a, .int (ns.length : Int)] ∧ SqT K H a (ns.map V.int) ∧ Lds ns ∧ ns.length ≤ 1000 ∧ ∀ H', Same H H' → Q .non H'
theorem ok_check_reads (TX : Tx K mg) : FnOk P w K mg base CX0 5 TX.a_check_reads TX.fd_check_reads ["reads", "flushes"] (sp_check_reads K) := by
  refine TX.f_check_reads.ok sc_check_reads (fun vs H Q E h => ?_) (fun cdv A outer s H vs Q E hr h => ?_)
  · obtain ⟨a, ns, rfl, _⟩ := h; rfl
  · obtain ⟨a, ns, rfl, hS, hL, h3, q⟩ := h
    refine ⟨_, (pss_one (ps_if (pt_not (pt_val (pe_call (ok_are_loads TX) (hr.mono (by decide)) (by rfl) TX.g_are_loads TX.f_are_loads.kp TX.bd_are_loads .nil pass0 (pa_cons (pv 0) (pa_cons (pv 1) (pa_cons (pv 1) pa_nil))))))
        (pss_one ps_never)
        pss_nil)), ?_⟩
    exact ⟨.ref a, rfl, .int _, rfl, .int _, rfl, a, ns, _, _, rfl, hS, hL, Int.le_refl _, Int.le_refl _, h3, fun H' s' => ⟨true, rfl, iteF (q H' s')⟩⟩
end
/-- the draws' list: a number not below 0, a seed, a count of at most n -/
def Pot (H : Hp) (a : Addr) (n : Int) : Prop := ∃ d s m : Int, H a = some (.lst [.int d, .int s, .int m]) ∧ 0 ≤ d ∧ 0 ≤ s ∧ s < 2 ^ 62 ∧ 0 ≤ m ∧ m ≤ n
theorem Pot.mono {H : Hp} {a : Addr} {n k : Int} (h : Pot H a n) (e : n ≤ k) : Pot H a k := by
  obtain ⟨d, s, m, h1, h2, h3, h4, h5, h6⟩ := h
  exact ⟨d, s, m, h1, h2, h3, h4, h5, by omega⟩
theorem Pot.same {H H' : Hp} {a : Addr} {n : Int} (h : Pot H a n) (e : Same H H') : Pot H' a n := by
  obtain ⟨d, s, m, h1, r⟩ := h
  exact ⟨d, s, m, e _ _ h1, r⟩
theorem Pot.keep {K : PySem.W.Frag} {H H' : Hp} {a : Addr} {n : Int} (h : Pot H a n) (e : But a H H') : Keep K H H' := by
  obtain ⟨d, s, m, h1, r⟩ := h
  exact But.keep e h1
theorem Pot.ne {H : Hp} {a b : Addr} {n : Int} (h : Pot H a n) (e : H b = none) : b ≠ a := fun z => by
  obtain ⟨d, s, m, h1, r⟩ := h
  rw [z, h1] at e; cases e
theorem Pot.upd {H : Hp} {a l : Addr} {n : Int} {o : HO} (h : Pot H a n) (e : l ≠ a) : Pot (L2.upd H l o) a n := by
  obtain ⟨d, s, m, h1, r⟩ := h
  exact ⟨d, s, m, by rw [upd_ne e.symm]; exact h1, r⟩
theorem But.mut {a l : Addr} {H H' : Hp} {o : HO} (b : But a H H') (h : H l = none) : But a H (L2.upd H' l o) := fun c u n e => by
  rw [upd_ne (ne_of_none e h)]; exact b _ _ n e
theorem na_lt {x : Int} {n : Nat} (h0 : 0 ≤ x) (h1 : x < ((2 ^ n : Nat) : Int)) : x.natAbs < 2 ^ n := by omega
theorem bit01 (b : Bool) : (if b = true then (1 : Int) else 0).natAbs < 2 ^ 2 ∧ (0 : Int) ≤ (if b = true then (1 : Int) else 0) := by cases b <;> exact ⟨by decide, by decide⟩
set_option exponentiation.threshold 2000
section
variable {P : Program} {w : World} {K : PySem.W.Frag} {mg : Str → Option Value} {base : Heap}
def sp_L_pot (K : PySem.W.Frag) : Sp := fun vs H Q _ => ∃ (a : Addr) (ns : List Int) (pl : Nat), vs = [.ref a, .int (pl : Int)] ∧ SqL K H a (ns.map V.int) ∧ pl ≤ 62 ∧ ∀ H' p, Same H H' → H p = none → Pot H' p 0 → Q (.ref p) H'
theorem ok_L_pot (TX : Tx K mg) : FnOk P w K mg base CX0 1 TX.a_L_pot TX.fd_L_pot ["_law_script", "_law_k"] (sp_L_pot K) := by
  refine TX.f_L_pot.ok sc_L_pot (fun vs H Q E h => ?_) (fun cdv A outer s H vs Q E hr h => ?_)
  · obtain ⟨a, ns, pl, rfl, _⟩ := h; rfl
  · obtain ⟨a, ns, pl, rfl, hS, hpl, q⟩ := h
    refine ⟨_, (pss_cut (ps_set (i := 2) sc_L_pot.nd rfl (.inl rfl) (pe_ifExp (pt_cmpR op_lt (pv 1) (pe_callB (id := "len") (k_len (K := K) rfl) (by rfl) TX.b_len (by decide +kernel) (pa_cons (pv 0) pa_nil)) (nomark _)) (pe_ix (k_ixL (K := K) rfl) (pv 0) (pv 1) (fun _ _ => rfl)) pe_int))
      (pss_cons (ps_set (i := 3) sc_L_pot.nd rfl (.inl rfl) (pe_op op_mulW (pe_op op_mulW (pe_op op_mulW (pe_op op_mulW (pe_op op_powW pe_int pe_int) (pe_op op_powW pe_int pe_int)) (pe_op op_powW pe_int pe_int)) (pe_op op_powW pe_int pe_int)) (pe_op op_powW pe_int pe_int)))
      (pss_one (ps_ret (pe_lst (pa_cons (pe_op op_mulW (pe_op op_mod (pe_callB (id := "abs") call_abs (by rfl) TX.b_abs (by decide +kernel) (pa_cons (pv 2) pa_nil)) (pv 3)) (pe_callTy (T := "int") call_int1 (by rfl) TX.b_int (by decide +kernel) (pa_cons (pe_cmpR op_ge (pe_callB (id := "abs") call_abs (by rfl) TX.b_abs (by decide +kernel) (pa_cons (pv 2) pa_nil)) (pe_op op_powW pe_int pe_int) (nomark _)) pa_nil))) (pa_cons (pe_op op_add (pe_op op_add (pe_op op_mod (pv 2) pe_int) (pe_op op_mulW pe_int (pv 1))) pe_int) (pa_cons pe_int pa_nil)))))))), ?_⟩
    refine ⟨fun σ H' => ∃ x : Int, σ = [some (.ref a), some (.int (pl : Int)), some (.int x), none] ∧ H' = H, ?_, ?_⟩
    · refine ⟨_, rfl, .ref a, rfl, a, _, rfl, .inl hS, _, _, rfl, rfl, _, rfl, ?_⟩
      refine ite2 (fun h => ?_) (fun h => ?_)
      · have hlt : pl < ns.length := by
          have := of_decide_eq_true h
          rw [List.length_map] at this
          omega
        exact ⟨.ref a, rfl, _, rfl, a, _, _, .int ns[pl], rfl, rfl, hS, atI_nat (by rw [List.getElem?_map, List.getElem?_eq_getElem hlt]; rfl), _, rfl, rfl⟩
      · exact ⟨_, rfl, rfl⟩
    · rintro σ H' ⟨x, rfl, rfl⟩
      have pw : CPowW 10 60 := ⟨by decide, by decide +kernel⟩
      have pb : (10 ^ (60 : Int).toNat : Int).natAbs < 2 ^ 200 := by decide +kernel
      have c2 := wide_lt pb pb
      have c3 := wide_lt c2 pb
      have c4 := wide_lt c3 pb
      refine ⟨_, _, rfl, rfl, pw, _, _, rfl, rfl, pw, _, _, rfl, rfl, wide_mul pb pb (by decide) (by decide) (by decide), _, _, rfl, rfl, pw, _, _, rfl, rfl, wide_mul c2 pb (by decide) (by decide) (by decide), _, _, rfl, rfl, pw, _, _, rfl, rfl, wide_mul c3 pb (by decide) (by decide) (by decide), _, _, rfl, rfl, pw, _, _, rfl, rfl, wide_mul c4 pb (by decide) (by decide) (by decide), ?_⟩
      have P0 : (0 : Int) < 10 ^ (60 : Int).toNat * 10 ^ (60 : Int).toNat * 10 ^ (60 : Int).toNat * 10 ^ (60 : Int).toNat * 10 ^ (60 : Int).toNat := by decide +kernel
      have P1 : (10 ^ (60 : Int).toNat * 10 ^ (60 : Int).toNat * 10 ^ (60 : Int).toNat * 10 ^ (60 : Int).toNat * 10 ^ (60 : Int).toNat : Int) < ((2 ^ 1000 : Nat) : Int) := by decide +kernel
      have c0 := Int.emod_nonneg x (show (2305843009213693951 : Int) ≠ 0 by decide)
      have c1 := Int.emod_lt_of_pos x (show (0 : Int) < 2305843009213693951 by decide)
      refine ⟨_, rfl, _, rfl, _, rfl, _, _, rfl, rfl, P0, _, rfl, _, rfl, _, _, rfl, rfl, ⟨by decide, by decide +kernel⟩, _, _, rfl, rfl, .inr ⟨_, rfl, _, _, rfl, rfl, ?_, ?_⟩⟩
      · exact wide_mul (a := 1000) (b := 2) (na_lt (Int.emod_nonneg _ (Int.ne_of_gt P0)) (Int.lt_trans (Int.emod_lt_of_pos _ P0) P1)) (bit01 _).1 (by decide) (by decide) (by decide)
      · refine ⟨_, rfl, _, _, rfl, rfl, (show (0 : Int) < 2305843009213693951 by decide), _, rfl, _, _, rfl, rfl, wide_mul (a := 17) (b := 7) (by decide) (by omega) (by decide) (by decide) (by decide), _, _, rfl, rfl, _, _, rfl, rfl, sz60 (by simp), fun p np => q _ p (same_upd np) np ?_⟩
        refine ⟨_, _, _, upd_same, ?_, by omega, by omega, by decide, by decide⟩
        exact Int.mul_nonneg (Int.emod_nonneg _ (Int.ne_of_gt P0)) (bit01 _).2
def sp_L_take (K : PySem.W.Frag) : Sp := fun vs H Q _ => ∃ (a : Addr) (z n : Int), vs = [.ref a, .int z] ∧ Pot H a n ∧ n ≤ 1000000 ∧ 1 ≤ z ∧ z ≤ 2000000000 ∧ ∀ H' r, But a H H' → Pot H' a (n + 1) → 0 ≤ r → r < z → Q (.int r) H'
theorem prime_at {m : Int} (h0 : 0 ≤ m) : ∃ v : Int, atI [V.int 2147483647, V.int 2147483629, V.int 2147483587, V.int 2147483579, V.int 2147483563, V.int 2147483549, V.int 2147483543, V.int 2147483497] (m % 8) = some (.int v) ∧ 0 < v ∧ v < 2 ^ 31 := by
  have h : m % 8 = 0 ∨ m % 8 = 1 ∨ m % 8 = 2 ∨ m % 8 = 3 ∨ m % 8 = 4 ∨ m % 8 = 5 ∨ m % 8 = 6 ∨ m % 8 = 7 := by omega
  rcases h with h | h | h | h | h | h | h | h <;> rw [h] <;> exact ⟨_, rfl, by decide, by decide⟩
theorem ok_L_take (TX : Tx K mg) : FnOk P w K mg base CX0 1 TX.a_L_take TX.fd_L_take ["_law_pot_here", "_law_wide"] (sp_L_take K) := by
  refine TX.f_L_take.ok sc_L_take (fun vs H Q E h => ?_) (fun cdv A outer s H vs Q E hr h => ?_)
  · obtain ⟨a, z, n, rfl, _⟩ := h; rfl
  · obtain ⟨a, z, n, rfl, ⟨d, sd, m, hp, hd, hs0, hs1, hm0, hm1⟩, hn, hz1, hz2, q⟩ := h
    refine ⟨_, (pss_cons (ps_if (pt_cmpR op_gt (pe_ix (k_ixL (K := K) rfl) (pv 0) pe_int (fun _ _ => rfl)) pe_int (nomark _))
        (pss_cons (ps_set (i := 2) sc_L_take.nd rfl (.inl rfl) (pe_op op_mod (pe_ix (k_ixL (K := K) rfl) (pv 0) pe_int (fun _ _ => rfl)) (pv 1)))
        (pss_cons (ps_asg (pe_op op_fdivW (pe_ix (k_ixL (K := K) rfl) (pv 0) pe_int (fun _ _ => rfl)) (pv 1)) (pg_sub (pv 0) pe_int set_list))
        (pss_one (ps_ret (pv 2)))))
        pss_nil)
      (pss_cons (ps_asg (pe_op op_add (pe_ix (k_ixL (K := K) rfl) (pv 0) pe_int (fun _ _ => rfl)) pe_int) (pg_sub (pv 0) pe_int set_list))
      (pss_cons (ps_set (i := 3) sc_L_take.nd rfl (.inl rfl) (pe_lst (pa_cons pe_int (pa_cons pe_int (pa_cons pe_int (pa_cons pe_int (pa_cons pe_int (pa_cons pe_int (pa_cons pe_int (pa_cons pe_int pa_nil))))))))))
      (pss_cons (ps_set (i := 4) sc_L_take.nd rfl (.inl rfl) (pe_ix (k_ixL (K := K) rfl) (pv 3) (pe_op op_mod (pe_ix (k_ixL (K := K) rfl) (pv 0) pe_int (fun _ _ => rfl)) pe_int) (fun _ _ => rfl)))
      (pss_cons (ps_set (i := 5) sc_L_take.nd rfl (.inl rfl) (pe_op op_add (pe_op op_mod (pe_op op_mod (pe_op op_add (pe_ix (k_ixL (K := K) rfl) (pv 0) pe_int (fun _ _ => rfl)) (pe_op op_mulW (pe_op op_mulW pe_int (pe_ix (k_ixL (K := K) rfl) (pv 0) pe_int (fun _ _ => rfl))) (pe_ix (k_ixL (K := K) rfl) (pv 0) pe_int (fun _ _ => rfl)))) (pe_op op_pow (pv 4) pe_int)) (pv 4)) pe_int))
      (pss_one (ps_ret (pe_op op_mod (pe_op op_fdivW (pe_op op_mod (pe_op op_mulW (pv 5) (pe_op op_add (pe_op op_mod (pv 5) pe_int) (pe_ix (k_ixL (K := K) rfl) (pv 0) pe_int (fun _ _ => rfl)))) (pv 4)) pe_int) (pv 1))))))))), ?_⟩
    refine ⟨.ref a, rfl, a, _, _, .int d, rfl, rfl, .inl (.inl hp), rfl, _, _, rfl, rfl, _, rfl, ite2 (fun h => ?_) (fun h => ?_)⟩
    · refine ⟨.ref a, rfl, a, _, _, .int d, rfl, rfl, .inl (.inl hp), rfl, _, rfl, _, _, rfl, rfl, (show 0 < z by omega), ?_⟩
      refine ⟨.ref a, rfl, a, _, _, .int d, rfl, rfl, .inl (.inl hp), rfl, _, rfl, _, _, rfl, rfl, wide_div (b := 32) (by omega) (by omega) (by decide) (by decide), .ref a, rfl, a, _, 0, 0, rfl, rfl, hp, rfl, ?_⟩
      refine ⟨_, rfl, q _ _ But.upd ⟨d / z, sd, m, upd_same, Int.ediv_nonneg hd (by omega), hs0, hs1, hm0, by omega⟩ (Int.emod_nonneg _ (by omega)) (Int.emod_lt_of_pos _ (by omega))⟩
    · refine ⟨.ref a, rfl, a, _, _, .int m, rfl, rfl, .inl (.inl hp), rfl, _, _, rfl, rfl, ?_⟩
      refine ⟨.ref a, rfl, a, _, 2, 2, rfl, rfl, hp, rfl, ?_⟩
      have hp1 : (upd H a (.lst (List.set [V.int d, V.int sd, V.int m] 2 (V.int (m + 1))))) a = some (.lst [V.int d, V.int sd, V.int (m + 1)]) := upd_same
      have b1 : But a H (upd H a (.lst (List.set [V.int d, V.int sd, V.int m] 2 (V.int (m + 1))))) := But.upd
      generalize upd H a (.lst (List.set [V.int d, V.int sd, V.int m] 2 (V.int (m + 1)))) = H1 at hp1 b1 ⊢
      refine ⟨sz60 (by simp), fun pl npl => ?_⟩
      have s2 := same_upd (o := .lst [V.int 2147483647, V.int 2147483629, V.int 2147483587, V.int 2147483579, V.int 2147483563, V.int 2147483549, V.int 2147483543, V.int 2147483497]) npl
      have hp2 := s2 _ _ hp1
      obtain ⟨pr, hpr, pr0, pr1⟩ := prime_at (m := m + 1) (by omega)
      refine ⟨_, rfl, .ref a, rfl, a, _, _, .int (m + 1), rfl, rfl, .inl (.inl hp2), rfl, _, _, rfl, rfl, (show (0 : Int) < 8 by decide), pl, _, _, .int pr, rfl, rfl, .inl (.inl upd_same), hpr, ?_⟩
      have k1 : (m + 1) * (m + 1) ≤ 1000001 * 1000001 := Int.mul_le_mul (by omega) (by omega) (by omega) (by omega)
      have k2 : (0 : Int) ≤ (m + 1) * (m + 1) := Int.mul_nonneg (by omega) (by omega)
      have k3 : 69621 * (m + 1) * (m + 1) = 69621 * ((m + 1) * (m + 1)) := Int.mul_assoc _ _ _
      have p2 : (0 : Int) < pr ^ (2 : Int).toNat := Int.pow_pos pr0
      refine ⟨.ref a, rfl, a, _, _, .int sd, rfl, rfl, .inl (.inl hp2), rfl, .ref a, rfl, a, _, _, .int (m + 1), rfl, rfl, .inl (.inl hp2), rfl, _, _, rfl, rfl, wide_mul (a := 17) (b := 21) (by decide) (by omega) (by decide) (by decide) (by decide), .ref a, rfl, a, _, _, .int (m + 1), rfl, rfl, .inl (.inl hp2), rfl, _, _, rfl, rfl, wide_mul (a := 38) (b := 21) (by omega) (by omega) (by decide) (by decide) (by decide), _, _, rfl, rfl, _, rfl, _, _, rfl, rfl, ⟨by decide, by decide, by omega⟩, _, _, rfl, rfl, p2, _, rfl, _, _, rfl, rfl, pr0, _, _, rfl, rfl, ?_⟩
      generalize hmx : (sd + 69621 * (m + 1) * (m + 1)) % pr ^ (2 : Int).toNat % pr = mx
      have mx0 : 0 ≤ mx := by rw [← hmx]; exact Int.emod_nonneg _ (by omega)
      have mx1 : mx < pr := by rw [← hmx]; exact Int.emod_lt_of_pos _ pr0
      refine ⟨_, rfl, _, rfl, _, _, rfl, rfl, (show (0 : Int) < 1009 by decide), .ref a, rfl, a, _, _, .int (m + 1), rfl, rfl, .inl (.inl hp2), rfl, _, _, rfl, rfl, _, _, rfl, rfl, wide_mul (a := 32) (b := 22) (by omega) (by omega) (by decide) (by decide) (by decide), _, rfl, _, _, rfl, rfl, pr0, _, _, rfl, rfl, wide_div (b := 3) (by decide) (by decide) (by decide) (by decide), _, rfl, _, _, rfl, rfl, (show 0 < z by omega), ?_⟩
      exact q _ _ (b1.trans (But.of s2)) ⟨d, sd, m + 1, hp2, hd, hs0, hs1, by omega, by omega⟩ (Int.emod_nonneg _ (by omega)) (Int.emod_lt_of_pos _ (by omega))
def sp_L_of (K : PySem.W.Frag) : Sp := fun vs H Q _ => ∃ (a l : Addr) (xs : List V) (n : Int), vs = [.ref a, .ref l] ∧ Pot H a n ∧ n ≤ 1000000 ∧ H l = some (.lst xs) ∧ l ≠ a ∧ xs ≠ [] ∧ xs.length ≤ 1000 ∧ ∀ H' v, But a H H' → Pot H' a (n + 1) → v ∈ xs → Q v H'
theorem ok_L_of (TX : Tx K mg) : FnOk P w K mg base CX0 2 TX.a_L_of TX.fd_L_of ["_law_pot_here", "_law_some"] (sp_L_of K) := by
  refine TX.f_L_of.ok sc_L_of (fun vs H Q E h => ?_) (fun cdv A outer s H vs Q E hr h => ?_)
  · obtain ⟨a, l, xs, n, rfl, _⟩ := h; rfl
  · obtain ⟨a, l, xs, n, rfl, hp, hn, hl, nla, hne, hlen, q⟩ := h
    refine ⟨_, (pss_one (ps_ret (pe_ix (k_ixL (K := K) rfl) (pv 1) (pe_call (ok_L_take TX) (hr.mono (by decide)) (by rfl) TX.g_L_take TX.f_L_take.kp TX.bd_L_take .nil pass0 (pa_cons (pv 0) (pa_cons (pe_callB (id := "len") (k_len (K := K) rfl) (by rfl) TX.b_len (by decide +kernel) (pa_cons (pv 1) pa_nil)) pa_nil))) (fun _ _ => rfl)))), ?_⟩
    have h0 : 0 < xs.length := List.length_pos_iff.mpr hne
    refine ⟨.ref l, rfl, .ref a, rfl, .ref l, rfl, l, _, rfl, .inl (.inl (.inl hl)), a, _, n, rfl, hp, hn, by omega, by omega, fun H' r b1 p1 r0 r1 => ?_⟩
    have er : r = ((r.toNat : Nat) : Int) := by omega
    have hr1 : r.toNat < xs.length := by omega
    have hat : atI xs r = some xs[r.toNat] := by
      have := atI_nat (List.getElem?_eq_getElem hr1)
      rwa [← er] at this
    exact ⟨l, xs, r, xs[r.toNat], rfl, rfl, .inl (.inl (b1 _ _ nla hl)), hat, q _ _ b1 p1 (List.getElem_mem ..)⟩
end
theorem But.free {a l : Addr} {H H' : Hp} (b : But a H H') (h : H' l = none) (n : l ≠ a) : H l = none := by
  cases e : H l with
  | none => rfl
  | some o => rw [b _ _ n e] at h; cases h
theorem at_mem {xs : List V} {r : Int} (r0 : 0 ≤ r) (r1 : r < (xs.length : Int)) : ∃ v, atI xs r = some v ∧ v ∈ xs := by
  have er : r = ((r.toNat : Nat) : Int) := by omega
  have hr1 : r.toNat < xs.length := by omega
  refine ⟨xs[r.toNat], ?_, List.getElem_mem ..⟩
  have := atI_nat (List.getElem?_eq_getElem hr1)
  rwa [← er] at this
section
variable {P : Program} {w : World} {K : PySem.W.Frag} {mg : Str → Option Value} {base : Heap}
def sp_L_load (K : PySem.W.Frag) : Sp := fun vs H Q _ => ∃ (a : Addr) (k : Nat) (wd n : Int), vs = [.ref a, .int (k : Int), .int wd] ∧ Pot H a n ∧ n ≤ 900000 ∧ k ≤ 100 ∧ 1 ≤ wd ∧ wd ≤ 1000000000 ∧
  ∀ H' p (ns : List Int), But a H H' → Pot H' a (n + 402) → ns.length = k → (∀ x, x ∈ ns → 0 ≤ x ∧ (x ≤ wd ∨ x ≤ 3)) → SqT K H' p (ns.map V.int) → Q (.ref p) H'
theorem ok_L_load (TX : Tx K mg) : FnOk P w K mg base CX0 3 TX.a_L_load TX.fd_L_load ["_law_pot_here", "_law_count", "_law_wide"] (sp_L_load K) := by
  refine TX.f_L_load.ok sc_L_load (fun vs H Q E h => ?_) (fun cdv A outer s H vs Q E hr h => ?_)
  · obtain ⟨a, k, wd, n, rfl, _⟩ := h; rfl
  · obtain ⟨a, k, wd, n, rfl, hp, hn, hk, hw1, hw2, q⟩ := h
    refine ⟨_, (pss_cons (ps_par (i := 3) (j := 4) (by rfl) sc_L_load.nd rfl rfl (by decide) rfl rfl (pa_cons (pe_call (ok_L_take TX) (hr.mono (by decide)) (by rfl) TX.g_L_take TX.f_L_take.kp TX.bd_L_take .nil pass0 (pa_cons (pv 0) (pa_cons pe_int pa_nil))) (pa_cons (pe_call (ok_L_take TX) (hr.mono (by decide)) (by rfl) TX.g_L_take TX.f_L_take.kp TX.bd_L_take .nil pass0 (pa_cons (pv 0) (pa_cons (pe_op op_add (pv 2) pe_int) pa_nil))) pa_nil)) (by rfl))
      (pss_cons (ps_set (i := 5) sc_L_load.nd rfl (.inl rfl) (pe_lst pa_nil))
      (pss_cons (ps_for PassesOwn.never rfl (pi_range1 (by rfl) TX.b_range (pa_cons (pv 1) pa_nil)) (pg_name (i := 6) sc_L_load.nd rfl (.inl rfl))
        (pss_cons (ps_set (i := 7) sc_L_load.nd rfl (.inl rfl) (pe_lst (pa_cons pe_int (pa_cons (pv 4) (pa_cons (pe_call (ok_L_take TX) (hr.mono (by decide)) (by rfl) TX.g_L_take TX.f_L_take.kp TX.bd_L_take .nil pass0 (pa_cons (pv 0) (pa_cons pe_int pa_nil))) (pa_cons (pe_op op_sub (pv 2) (pe_call (ok_L_take TX) (hr.mono (by decide)) (by rfl) TX.g_L_take TX.f_L_take.kp TX.bd_L_take .nil pass0 (pa_cons (pv 0) (pa_cons (pe_callB (id := "min") (call_min2 rfl) (by rfl) TX.b_min (by decide +kernel) (pa_cons (pv 2) (pa_cons pe_int pa_nil))) pa_nil)))) (pa_cons (pe_call (ok_L_of TX) (hr.mono (by decide)) (by rfl) TX.g_L_of TX.f_L_of.kp TX.bd_L_of .nil pass0 (pa_cons (pv 0) (pa_cons (pe_lst (pa_cons pe_int (pa_cons pe_int (pa_cons pe_int (pa_cons (pv 2) pa_nil))))) pa_nil))) (pa_cons pe_int pa_nil))))))))
        (pss_one (ps_expr (pe_bm PySem.F.plainAttrs_list PySem.F.slot_list_append PySem.F.type_list_append mt_append (pv 5) (pa_cons (pe_ifExp (pt_cmpR op_lt (pv 3) pe_int (nomark _)) (pe_ix (k_ixL (K := K) rfl) (pv 7) (pv 3) (fun _ _ => rfl)) (pe_call (ok_L_take TX) (hr.mono (by decide)) (by rfl) TX.g_L_take TX.f_L_take.kp TX.bd_L_take .nil pass0 (pa_cons (pv 0) (pa_cons (pe_op op_add (pv 2) pe_int) pa_nil)))) pa_nil))))))
      (pss_one (ps_ret (pe_callTy (T := "tuple") (k_tupOf (K := K) rfl) (by rfl) TX.b_tuple (by decide +kernel) (pa_cons (pv 5) pa_nil))))))), ?_⟩
    refine ⟨.ref a, rfl, a, 6, n, rfl, hp, by omega, by decide, by decide, fun H1 sy b1 p1 y0 y1 => ?_⟩
    refine ⟨.ref a, rfl, _, rfl, _, _, rfl, rfl, a, wd + 1, _, rfl, p1, by omega, by omega, by omega, fun H2 lv b2 p2 l0 l1 => ?_⟩
    have b12 := b1.trans b2
    refine ⟨_, _, rfl, sz60 (by simp), fun l nl => ?_⟩
    have s3 := same_upd (o := .lst []) nl
    have nla : l ≠ a := p2.ne nl
    have nlH : H l = none := But.free b12 nl nla
    refine ⟨_, rfl, _, rfl, by omega, by omega, for_range (lo := 0) (n := ((k : Nat) : Int).toNat) (fun i σ H' => ∃ (y6 y7 : Option V) (ns : List Int), σ = [some (.ref a), some (.int (k : Int)), some (.int wd), some (.int sy), some (.int lv), some (.ref l), y6, y7] ∧ But a H H' ∧ Pot H' a (n + 2 + 4 * (i : Int)) ∧ H' l = some (.lst (ns.map V.int)) ∧ ns.length = i ∧ ∀ x, x ∈ ns → 0 ≤ x ∧ (x ≤ wd ∨ x ≤ 3))
      ⟨none, none, [], rfl, b12.trans (But.of s3), (p2.same s3).mono (by omega), upd_same, rfl, by simp⟩ ?_ ?_⟩
    · rintro i σ H3 hi ⟨y6, y7, ns, rfl, b3, p3, hl3, hnl, hB⟩
      have hi' : i < k := by omega
      refine ⟨_, rfl, .ref a, rfl, a, 4, _, rfl, p3, by omega, by decide, by decide, fun H4 r1 b4 p4 r10 r11 => ?_⟩
      refine ⟨_, rfl, .ref a, rfl, _, rfl, _, _, rfl, a, _, _, rfl, p4, by omega, by split <;> omega, by split <;> omega, fun H5 r2 b5 p5 r20 r21 => ?_⟩
      have hr2 : r2 < wd := by
        revert r21
        split <;> omega
      refine ⟨_, _, rfl, rfl, .ref a, rfl, _, rfl, sz60 (by simp), fun o no => ?_⟩
      have s6 := same_upd (o := .lst [V.int 0, V.int 0, V.int 0, V.int wd]) no
      refine ⟨a, o, _, _, rfl, p5.same s6, by omega, upd_same, p5.ne no, by simp, by simp, fun H7 v b7 p7 hv => ?_⟩
      obtain ⟨x, rfl, hx⟩ : ∃ x : Int, v = .int x ∧ 0 ≤ x ∧ (x ≤ wd ∨ x ≤ 3) := by
        simp only [List.mem_cons, List.not_mem_nil, or_false] at hv
        rcases hv with rfl | rfl | rfl | rfl
        · exact ⟨0, rfl, by omega, by omega⟩
        · exact ⟨0, rfl, by omega, by omega⟩
        · exact ⟨0, rfl, by omega, by omega⟩
        · exact ⟨wd, rfl, by omega, by omega⟩
      refine ⟨sz60 (by simp), fun o2 no2 => ?_⟩
      have b37 : But a H3 H7 := ((b4.trans b5).trans (But.of s6)).trans b7
      have hl7 : H7 l = some (.lst (ns.map V.int)) := b37 _ _ nla hl3
      have s8 := same_upd (o := .lst [V.int 0, V.int lv, V.int r1, V.int (wd - r2), V.int x, V.int 0]) no2
      have hl8 := s8 _ _ hl7
      have p8 := p7.same s8
      have b38 : But a H (upd H7 o2 (.lst [V.int 0, V.int lv, V.int r1, V.int (wd - r2), V.int x, V.int 0])) := (b3.trans b37).trans (But.of s8)
      refine ⟨.ref l, rfl, .inl ⟨rfl, _, .inl (.inl hl8)⟩, _, rfl, _, _, rfl, rfl, _, rfl, ite2 (fun h => ?_) (fun h => ?_)⟩
      · have hs5 : sy < 5 := by simpa using h
        obtain ⟨v, hv1, hv2⟩ := at_mem (xs := [V.int 0, V.int lv, V.int r1, V.int (wd - r2), V.int x, V.int 0]) (r := sy) y0 (by simp; omega)
        obtain ⟨x', rfl, hx'⟩ : ∃ x : Int, v = .int x ∧ 0 ≤ x ∧ (x ≤ wd ∨ x ≤ 3) := by
          simp only [List.mem_cons, List.not_mem_nil, or_false] at hv2
          rcases hv2 with rfl | rfl | rfl | rfl | rfl | rfl
          · exact ⟨0, rfl, by omega, by omega⟩
          · exact ⟨lv, rfl, by omega, by omega⟩
          · exact ⟨r1, rfl, by omega, by omega⟩
          · exact ⟨wd - r2, rfl, by omega, by omega⟩
          · exact ⟨x, rfl, hx⟩
          · exact ⟨0, rfl, by omega, by omega⟩
        refine ⟨.ref o2, rfl, _, rfl, o2, _, _, _, rfl, rfl, .inl (.inl upd_same), hv1, l, _, _, rfl, rfl, hl8, sz61 (by rw [List.length_map]; omega), ?_⟩
        refine ⟨_, _, ns ++ [x'], rfl, But.mut b38 nlH, (p8.upd nla).mono (by omega), by rw [upd_same, List.map_append]; rfl, by simp [hnl], fun y hy => ?_⟩
        rcases List.mem_append.mp hy with hy | hy
        · exact hB y hy
        · rw [List.mem_singleton.mp hy]; exact hx'
      · refine ⟨.ref a, rfl, _, rfl, _, _, rfl, rfl, a, wd + 1, _, rfl, p8, by omega, by omega, by omega, fun H9 r3 b9 p9 r30 r31 => ?_⟩
        have hl9 := b9 _ _ nla hl8
        refine ⟨l, _, _, rfl, rfl, hl9, sz61 (by rw [List.length_map]; omega), ?_⟩
        refine ⟨_, _, ns ++ [r3], rfl, But.mut (b38.trans b9) nlH, (p9.upd nla).mono (by omega), by rw [upd_same, List.map_append]; rfl, by simp [hnl], fun y hy => ?_⟩
        rcases List.mem_append.mp hy with hy | hy
        · exact hB y hy
        · rw [List.mem_singleton.mp hy]; exact ⟨by omega, by omega⟩
    · rintro σ H3 ⟨y6, y7, ns, rfl, b3, p3, hl3, hnl, hB⟩
      refine ⟨.ref l, rfl, l, _, rfl, .inl ⟨.inl (.inl hl3), fun p np => ?_⟩⟩
      exact q _ p ns (b3.trans (But.of (same_upd np))) ((p3.same (same_upd np)).mono (by omega)) (by omega) hB (.inl (.inl upd_same))
end
/-- the sum of the loads, each times its count -/
def dot (xs : List Int) (ns : List Nat) : Int := (List.zipWith (fun (x : Int) (n : Nat) => x * (n : Int)) xs ns).sum
theorem wr_le : ∀ (t : T) (n : Nat), n ∈ t.wr → n ≤ t.size
  | .nil, n, h => by cases h
  | .node l r, n, h => by
    simp only [T.wr, List.mem_append, List.mem_map, List.mem_cons] at h
    simp only [T.size]
    rcases h with ⟨m, hm, rfl⟩ | rfl | hm
    · have := wr_le l m hm; omega
    · omega
    · have := wr_le r n hm; omega
theorem rc_le : ∀ (t : T) (n : Nat), n ∈ t.rc → n ≤ t.size
  | .nil, n, h => by cases h
  | .node l r, n, h => by
    simp only [T.rc, List.mem_append, List.mem_map, List.mem_cons] at h
    simp only [T.size]
    rcases h with hm | rfl | ⟨m, hm, rfl⟩
    · have := rc_le l n hm; omega
    · omega
    · have := rc_le r m hm; omega
theorem dot_bd : ∀ {xs : List Int} {ns : List Nat}, Lds xs → (∀ n, n ∈ ns → n ≤ 60) → 0 ≤ dot xs ns ∧ dot xs ns ≤ (xs.length : Int) * 60000000000
  | [], _, _, _ => by simp [dot]
  | _ :: _, [], _, _ => by simp [dot]; omega
  | x :: xs, n :: ns, h1, h2 => by
    have ih := dot_bd (xs := xs) (ns := ns) (fun y hy => h1 y (List.mem_cons_of_mem _ hy)) fun m hm => h2 m (List.mem_cons_of_mem _ hm)
    have a := h1 x (List.mem_cons_self ..)
    have b := h2 n (List.mem_cons_self ..)
    have c : x * (n : Int) ≤ 1000000000 * 60 := Int.mul_le_mul a.2 (by omega) (by omega) (by omega)
    have d : 0 ≤ x * (n : Int) := Int.mul_nonneg a.1 (by omega)
    have e : dot (x :: xs) (n :: ns) = x * (n : Int) + dot xs ns := by simp [dot]
    rw [e, List.length_cons]
    omega
section
variable {P : Program} {w : World} {K : PySem.W.Frag} {mg : Str → Option Value} {base : Heap}
def sp_weighted (K : PySem.W.Frag) : Sp := fun vs H Q _ => ∃ (a b : Addr) (xs : List Int) (ns : List Nat), vs = [.ref a, .ref b] ∧ SqT K H a (xs.map V.int) ∧ SqT K H b (vi ns) ∧ xs.length = ns.length ∧ xs.length ≤ 60 ∧ Lds xs ∧ (∀ n, n ∈ ns → n ≤ 60) ∧ ∀ H', Same H H' → Q (.int (dot xs ns)) H'
theorem ok_weighted (TX : Tx K mg) : FnOk P w K mg base CX0 1 TX.a_weighted TX.fd_weighted ["loads", "counts"] (sp_weighted K) := by
  refine TX.f_weighted.ok sc_weighted (fun vs H Q E h => ?_) (fun cdv A outer s H vs Q E hr h => ?_)
  · obtain ⟨a, b, xs, ns, rfl, _⟩ := h; rfl
  · obtain ⟨a, b, xs, ns, rfl, hA, hB, he, hz, hL, hn, q⟩ := h
    refine ⟨_, (pss_one (ps_ret (pe_callB (id := "sum") (cr_sum rfl) (by rfl) TX.b_sum (by decide +kernel) (pa_cons (pe_lc (own := [("load", 2), ("count", 3)]) (by rfl) sc_weighted.nd (RZ.pi_zipA (by rfl) TX.b_zip (pa_cons (pv 0) (pa_cons (pv 1) pa_nil))) (blkOk_by (own := [("load", 2), ("count", 3)]) (N := N_weighted) (sc := defScope s_weighted) (by decide +kernel)) (fun _ _ _ _ _ => (k_pgT2 (K := K) rfl rfl (pg_name (i := 2) sc_weighted.nd rfl (Or.inl rfl)) (pg_name (i := 3) sc_weighted.nd rfl (Or.inl rfl)))) (fun _ _ _ _ _ => pts_nil) (fun _ _ _ _ _ => (pe_op op_mulW (pv 2) (pv 3)))) pa_nil)))), ?_⟩
    refine ⟨.ref a, rfl, .ref b, rfl, a, b, _, _, rfl, .inr ⟨hA, hB, fun D nD => ?_⟩⟩
    refine lc_all (K := K) (walk_zipT (xs := xs.map V.int) (ys := vi ns) rfl) ((List.zipWith (fun (x : Int) (n : Nat) => x * (n : Int)) xs ns).map PyData.int) (by simp [vi]) (tf_ints _) (by simp [vi]; omega) nD (fun H' s' => ⟨Same.tup s' hA, Same.tup s' hB⟩) ?_ ?_ mono_pair (fun σ' H' Q Q' h => h _ _)
    · rintro i x Hx Hx' hi sx ⟨T, x1, x2, rfl, nT, rfl, e1, e2⟩ d hd R hR
      dsimp only at e1 e2
      have hix : i < xs.length := by simp [vi] at hi; omega
      have hiy : i < ns.length := by omega
      rw [List.getElem?_map, List.getElem?_eq_getElem hix] at e1
      rw [vi_get (List.getElem?_eq_getElem hiy)] at e2
      cases e1; cases e2
      rw [List.getElem?_map, List.getElem?_zipWith, List.getElem?_eq_getElem hix, List.getElem?_eq_getElem hiy] at hd
      cases hd
      have b1 := hL _ (List.getElem_mem hix)
      have b2 := hn _ (List.getElem_mem hiy)
      exact ⟨T, _, rfl, .inl (.inl upd_same), rfl, _, _, rfl, _, _, rfl, rfl, rfl, rfl, _, rfl, _, rfl, _, _, rfl, rfl, wide_mul (a := 31) (b := 8) (by omega) (by omega) (by decide) (by decide) (by decide), hR _ _ (same_upd nT) (.int _)⟩
    · intro H5 acc s5 ha hA5
      rw [dp_ints_inv hA5] at ha
      exact ⟨D, _, rfl, .inl (.inl ha), q _ s5⟩
def sp_write_work (K : PySem.W.Frag) : Sp := fun vs H Q _ => ∃ (a b : Addr) (t : T) (ss : List Int), vs = [.ref a, .ref b] ∧ SqT K H a (vi t.sch) ∧ SqT K H b (ss.map V.int) ∧ ss.length = t.size ∧ t.size ≤ 60 ∧ Lds ss ∧ ∀ H', Same H H' → Q (.int (dot ss t.wr)) H'
theorem ok_write_work (TX : Tx K mg) : FnOk P w K mg base CX0 7 TX.a_write_work TX.fd_write_work ["schedule", "sizes"] (sp_write_work K) := by
  refine TX.f_write_work.ok sc_write_work (fun vs H Q E h => ?_) (fun cdv A outer s H vs Q E hr h => ?_)
  · obtain ⟨a, b, t, ss, rfl, _⟩ := h; rfl
  · obtain ⟨a, b, t, ss, rfl, hA, hB, he, hz, hL, q⟩ := h
    refine ⟨_, (pss_cons (ps_set (i := 2) sc_write_work.nd rfl (.inl rfl) (pe_call (ok_writes TX) (hr.mono (by decide)) (by rfl) TX.g_writes TX.f_writes.kp TX.bd_writes .nil pass0 (pa_cons (pv 0) pa_nil)))
      (pss_cons (ps_expr (pe_call (ok_check_sizes TX) (hr.mono (by decide)) (by rfl) TX.g_check_sizes TX.f_check_sizes.kp TX.bd_check_sizes .nil pass0 (pa_cons (pv 1) (pa_cons (pe_callB (id := "len") (k_len (K := K) rfl) (by rfl) TX.b_len (by decide +kernel) (pa_cons (pv 2) pa_nil)) (pa_cons (pe_callB (id := "len") (k_len (K := K) rfl) (by rfl) TX.b_len (by decide +kernel) (pa_cons (pv 2) pa_nil)) pa_nil)))))
      (pss_one (ps_ret (pe_call (ok_weighted TX) (hr.mono (by decide)) (by rfl) TX.g_weighted TX.f_weighted.kp TX.bd_weighted .nil pass0 (pa_cons (pv 1) (pa_cons (pv 2) pa_nil))))))), ?_⟩
    refine ⟨.ref a, rfl, a, t, rfl, hA, hz, fun H1 p1 s1 h1 => ?_⟩
    have hwl : ((vi t.wr).length : Int) = (ss.length : Int) := by rw [vi_len, T.wr_len, he]
    refine ⟨.ref b, rfl, .ref p1, rfl, p1, _, rfl, .inr h1, .ref p1, rfl, p1, _, rfl, .inr h1, b, ss, _, _, rfl, Same.tup s1 hB, hL, by omega, by omega, by omega, fun H2 s2 => ?_⟩
    exact ⟨.ref b, rfl, .ref p1, rfl, b, p1, ss, t.wr, rfl, Same.tup (s1.trans s2) hB, Same.tup s2 h1, by rw [T.wr_len, he], by omega, hL, fun n hn => by have := wr_le t n hn; omega, fun H3 s3 => q _ ((s1.trans s2).trans s3)⟩
def sp_read_work (K : PySem.W.Frag) : Sp := fun vs H Q _ => ∃ (a b : Addr) (t : T) (rs : List Int), vs = [.ref a, .ref b] ∧ SqT K H a (vi t.sch) ∧ SqT K H b (rs.map V.int) ∧ rs.length = t.size ∧ t.size ≤ 60 ∧ Lds rs ∧ ∀ H', Same H H' → Q (.int (dot rs t.rc)) H'
theorem ok_read_work (TX : Tx K mg) : FnOk P w K mg base CX0 7 TX.a_read_work TX.fd_read_work ["schedule", "reads"] (sp_read_work K) := by
  refine TX.f_read_work.ok sc_read_work (fun vs H Q E h => ?_) (fun cdv A outer s H vs Q E hr h => ?_)
  · obtain ⟨a, b, t, rs, rfl, _⟩ := h; rfl
  · obtain ⟨a, b, t, rs, rfl, hA, hB, he, hz, hL, q⟩ := h
    refine ⟨_, (pss_cons (ps_set (i := 2) sc_read_work.nd rfl (.inl rfl) (pe_call (ok_run_counts TX) (hr.mono (by decide)) (by rfl) TX.g_run_counts TX.f_run_counts.kp TX.bd_run_counts .nil pass0 (pa_cons (pv 0) pa_nil)))
      (pss_cons (ps_expr (pe_call (ok_check_reads TX) (hr.mono (by decide)) (by rfl) TX.g_check_reads TX.f_check_reads.kp TX.bd_check_reads .nil pass0 (pa_cons (pv 1) (pa_cons (pe_callB (id := "len") (k_len (K := K) rfl) (by rfl) TX.b_len (by decide +kernel) (pa_cons (pv 2) pa_nil)) pa_nil))))
      (pss_one (ps_ret (pe_call (ok_weighted TX) (hr.mono (by decide)) (by rfl) TX.g_weighted TX.f_weighted.kp TX.bd_weighted .nil pass0 (pa_cons (pv 1) (pa_cons (pv 2) pa_nil))))))), ?_⟩
    refine ⟨.ref a, rfl, a, t, rfl, hA, hz, fun H1 p1 s1 h1 => ?_⟩
    have hwl : ((vi t.rc).length : Int) = (rs.length : Int) := by rw [vi_len, T.rc_len, he]
    refine ⟨.ref b, rfl, .ref p1, rfl, p1, _, rfl, .inr h1, b, rs, by rw [hwl]; rfl, Same.tup s1 hB, hL, by omega, fun H2 s2 => ?_⟩
    exact ⟨.ref b, rfl, .ref p1, rfl, b, p1, rs, t.rc, rfl, Same.tup (s1.trans s2) hB, Same.tup s2 h1, by rw [T.rc_len, he], by omega, hL, fun n hn => by have := rc_le t n hn; omega, fun H3 s3 => q _ ((s1.trans s2).trans s3)⟩
end
section
variable {P : Program} {w : World} {K : PySem.W.Frag} {mg : Str → Option Value} {base : Heap}
def sp_work (K : PySem.W.Frag) : Sp := fun vs H Q _ => ∃ (a b c : Addr) (t : T) (ss rs : List Int), vs = [.ref a, .ref b, .ref c] ∧ SqT K H a (vi t.sch) ∧ SqT K H b (ss.map V.int) ∧ SqT K H c (rs.map V.int) ∧ ss.length = t.size ∧ rs.length = t.size ∧ t.size ≤ 60 ∧ Lds ss ∧ Lds rs ∧ ∀ H', Same H H' → Q (.int (dot ss t.wr + dot rs t.rc)) H'
theorem ok_work (TX : Tx K mg) : FnOk P w K mg base CX0 8 TX.a_work TX.fd_work ["schedule", "sizes", "reads"] (sp_work K) := by
  refine TX.f_work.ok sc_work (fun vs H Q E h => ?_) (fun cdv A outer s H vs Q E hr h => ?_)
  · obtain ⟨a, b, c, t, ss, rs, rfl, _⟩ := h; rfl
  · obtain ⟨a, b, c, t, ss, rs, rfl, hA, hB, hC, l1, l2, hz, dS, dR, q⟩ := h
    refine ⟨_, (pss_one (ps_ret (pe_op op_add (pe_call (ok_write_work TX) (hr.mono (by decide)) (by rfl) TX.g_write_work TX.f_write_work.kp TX.bd_write_work .nil pass0 (pa_cons (pv 0) (pa_cons (pv 1) pa_nil))) (pe_call (ok_read_work TX) (hr.mono (by decide)) (by rfl) TX.g_read_work TX.f_read_work.kp TX.bd_read_work .nil pass0 (pa_cons (pv 0) (pa_cons (pv 2) pa_nil)))))), ?_⟩
    refine ⟨.ref a, rfl, .ref b, rfl, a, b, t, ss, rfl, hA, hB, l1, hz, dS, fun H1 s1 => ?_⟩
    exact ⟨.ref a, rfl, .ref c, rfl, a, c, t, rs, rfl, Same.tup s1 hA, Same.tup s1 hC, l2, hz, dR, fun H2 s2 => ⟨_, _, rfl, rfl, q _ (s1.trans s2)⟩⟩
end
/-- the runs of a stack, as lists of their flushes; none of them is one of the lists of avoid -/
def Hld (H : Hp) (av : List Addr) (hs : List V) (l : List (Nat × Nat)) : Prop := hs.length = l.length ∧ ∀ (j : Nat) (p : Nat × Nat), l[j]? = some p → ∃ c : Addr, hs[j]? = some (V.ref c) ∧ c ∉ av ∧ H c = some (.lst (vi (seg p.1 p.2)))
theorem Hld.same {H H' : Hp} {av : List Addr} {hs : List V} {l : List (Nat × Nat)} (h : Hld H av hs l) (e : Same H H') : Hld H' av hs l :=
  ⟨h.1, fun j p hj => by obtain ⟨c, h1, h2, h3⟩ := h.2 j p hj; exact ⟨c, h1, h2, e _ _ h3⟩⟩
theorem Hld.upd {H : Hp} {av : List Addr} {hs : List V} {l : List (Nat × Nat)} {b : Addr} {o : HO} (h : Hld H av hs l) (hb : b ∈ av) : Hld (L2.upd H b o) av hs l :=
  ⟨h.1, fun j p hj => by
    obtain ⟨c, h1, h2, h3⟩ := h.2 j p hj
    refine ⟨c, h1, h2, ?_⟩
    rw [upd_ne (fun e : c = b => h2 (by rw [e]; exact hb))]; exact h3⟩
theorem Hld.take {H : Hp} {av : List Addr} {hs : List V} {l : List (Nat × Nat)} (h : Hld H av hs l) (n : Nat) : Hld H av (hs.take n) (l.take n) :=
  ⟨by rw [List.length_take, List.length_take, h.1], fun j p hj => by
    rw [List.getElem?_take] at hj
    split at hj
    · rename_i hlt
      obtain ⟨c, h1, h2, h3⟩ := h.2 j p hj
      exact ⟨c, by rw [List.getElem?_take, if_pos hlt]; exact h1, h2, h3⟩
    · cases hj⟩
theorem Hld.snoc {H : Hp} {av : List Addr} {hs : List V} {l : List (Nat × Nat)} {c : Addr} {p : Nat × Nat} (h : Hld H av hs l) (h2 : c ∉ av) (h3 : H c = some (.lst (vi (seg p.1 p.2)))) : Hld H av (hs ++ [.ref c]) (l ++ [p]) :=
  ⟨by simp [h.1], fun j q hj => by
    by_cases e : j < l.length
    · rw [List.getElem?_append_left e] at hj
      obtain ⟨c', k1, k2, k3⟩ := h.2 j q hj
      exact ⟨c', by rw [List.getElem?_append_left (by rw [h.1]; exact e)]; exact k1, k2, k3⟩
    · rw [List.getElem?_append_right (by omega)] at hj
      have e2 : j - l.length = 0 := by
        cases hk : j - l.length with
        | zero => rfl
        | succ k => rw [hk] at hj; simp at hj
      rw [e2] at hj
      cases hj
      exact ⟨c, by rw [List.getElem?_append_right (by rw [h.1]; omega), h.1, e2]; rfl, h2, h3⟩⟩
theorem not3 {c x y z : Addr} (h1 : c ≠ x) (h2 : c ≠ y) (h3 : c ≠ z) : c ∉ [x, y, z] := by
  simp only [List.mem_cons, List.not_mem_nil, or_false, not_or]
  exact ⟨h1, h2, h3⟩
section
variable {P : Program} {w : World} {K : PySem.W.Frag} {mg : Str → Option Value} {base : Heap}
def sp_L_counted (K : PySem.W.Frag) : Sp := fun vs H Q _ => ∃ (a : Addr) (t : T), vs = [.ref a] ∧ SqT K H a (vi t.sch) ∧ t.size ≤ 60 ∧ ∀ H' p tm ct, Same H H' → H tm = none → H ct = none → SqT K H' p [.ref tm, .ref ct] → H' tm = some (.lst (vi t.wr)) → H' ct = some (.lst (vi t.rc)) → Q (.ref p) H'
theorem ok_L_counted (TX : Tx K mg) : FnOk P w K mg base CX0 1 TX.a_L_counted TX.fd_L_counted ["_law_plan"] (sp_L_counted K) := by
  refine TX.f_L_counted.ok sc_L_counted (fun vs H Q E h => ?_) (fun cdv A outer s H vs Q E hr h => ?_)
  · obtain ⟨a, t, rfl, _⟩ := h; rfl
  · obtain ⟨a, t, rfl, hS, hz, q⟩ := h
    refine ⟨_, (pss_cons (ps_par3 (i := 1) (j := 2) (l := 3) (by rfl) sc_L_counted.nd rfl rfl rfl (by decide) (by decide) (by decide) rfl rfl rfl (pa_cons (pe_lst pa_nil) (pa_cons (pe_op op_rep (pe_lst (pa_cons pe_int pa_nil)) (pe_callB (id := "len") (k_len (K := K) rfl) (by rfl) TX.b_len (by decide +kernel) (pa_cons (pv 0) pa_nil))) (pa_cons (pe_lst pa_nil) pa_nil))) (by rfl))
      (pss_cons (ps_for PassesOwn.never rfl (pi_enumT (by rfl) TX.b_enumerate (pa_cons (pv 0) pa_nil)) (pg_tup rfl (pgs_cons (pg_name (i := 4) sc_L_counted.nd rfl (.inl rfl)) (pgs_cons (pg_name (i := 5) sc_L_counted.nd rfl (.inl rfl)) pgs_nil)))
        (pss_cons (ps_set (i := 6) sc_L_counted.nd rfl (.inl rfl) (pe_lst (pa_cons (pv 4) pa_nil)))
        (pss_cons (ps_for PassesOwn.never rfl (pi_range1 (by rfl) TX.b_range (pa_cons (pv 5) pa_nil)) (pg_name (i := 7) sc_L_counted.nd rfl (.inl rfl))
          (pss_one (ps_set (i := 6) sc_L_counted.nd rfl (.inl rfl) (pe_op op_cat (pe_bm0 PySem.F.plainAttrs_list PySem.F.slot_list_pop PySem.F.type_list_pop mt_pop (pv 1)) (pv 6)))))
        (pss_cons (ps_for PassesOwn.never rfl (k_piL (K := K) rfl (pv 6)) (pg_name (i := 8) sc_L_counted.nd rfl (.inl rfl))
          (pss_one (ps_asg (pe_op op_add (pe_ix (k_ixL (K := K) rfl) (pv 2) (pv 8) (fun _ _ => rfl)) pe_int) (pg_sub (pv 2) (pv 8) set_list))))
        (pss_cons (ps_expr (pe_bm PySem.F.plainAttrs_list PySem.F.slot_list_append PySem.F.type_list_append mt_append (pv 1) (pa_cons (pv 6) pa_nil)))
        (pss_one (ps_expr (pe_bm PySem.F.plainAttrs_list PySem.F.slot_list_append PySem.F.type_list_append mt_append (pv 3) (pa_cons (pe_callB (id := "len") (k_len (K := K) rfl) (by rfl) TX.b_len (by decide +kernel) (pa_cons (pv 1) pa_nil)) pa_nil)))))))))
      (pss_one (ps_ret (pe_tup (pa_cons (pv 2) (pa_cons (pv 3) pa_nil))))))), ?_⟩
    have hlen : (vi t.sch).length = t.size := by rw [vi_len, T.sch_len]
    refine ⟨sz60 (by simp), fun hd nhd => ?_⟩
    have s1 := same_upd (o := .lst []) nhd
    refine ⟨sz60 (by simp), fun z nz => ?_⟩
    have s2 := same_upd (o := .lst [V.int 0]) nz
    refine ⟨.ref a, rfl, a, _, rfl, .inr (Same.tup (s1.trans s2) hS), z, _, _, rfl, rfl, upd_same, by omega, by omega, sz60 (by simp [vi_len, T.sch_len]; omega), fun tm ntm => ?_⟩
    have ec : (List.replicate ((vi t.sch).length : Int).toNat [V.int 0]).flatten = vi (List.replicate t.size 0) := by
      rw [vi_rep, hlen, Int.toNat_natCast, List.flatten_replicate_singleton]; rfl
    have s3 := same_upd (o := .lst (List.replicate ((vi t.sch).length : Int).toNat [V.int 0]).flatten) ntm
    refine ⟨sz60 (by simp), fun ct nct => ⟨_, _, _, rfl, ?_⟩⟩
    have s4 := same_upd (o := .lst []) nct
    have s14 := ((s1.trans s2).trans s3).trans s4
    have hhd := s4 _ _ (s3 _ _ (s2 _ _ upd_same))
    have htm := s4 _ _ (upd_same (H := upd (upd H hd (.lst [])) z (.lst [V.int 0])) (a := tm) (o := .lst (List.replicate ((vi t.sch).length : Int).toNat [V.int 0]).flatten))
    have nhdH : H hd = none := nhd
    have ntmH : H tm = none := (s1.trans s2).free ntm
    have nctH : H ct = none := ((s1.trans s2).trans s3).free nct
    have d1 : hd ≠ tm := fun e => by rw [← e, s2 _ _ upd_same] at ntm; cases ntm
    have d2 : hd ≠ ct := fun e => by rw [← e, s3 _ _ (s2 _ _ upd_same)] at nct; cases nct
    have d3 : tm ≠ ct := fun e => by rw [← e, upd_same] at nct; cases nct
    refine ⟨.ref a, rfl, a, _, rfl, Same.tup s14 hS, for_it walk_enumT (fun i σ H' => ∃ y4 y5 y6 y7 y8 hs c, σ = [some (.ref a), some (.ref hd), some (.ref tm), some (.ref ct), y4, y5, y6, y7, y8] ∧ Same H H' ∧ H' hd = some (.lst hs) ∧ Hld H' [hd, tm, ct] hs ((pre t i).stk 0) ∧ H' tm = some (.lst (vi c)) ∧ c.length = t.size ∧ (∀ k, k < t.size → c[k]? = some ((pre t i).wr.getD k 0)) ∧ H' ct = some (.lst (vi (t.rc.take i))))
      ⟨none, none, none, none, none, [], List.replicate t.size 0, rfl, s14, hhd, ⟨rfl, fun j p hj => by rw [pre_zero] at hj; cases hj⟩, (by rw [← ec]; exact htm), by simp, fun k hk => by rw [List.getElem?_replicate, if_pos hk]; rfl, by rw [List.take_zero]; exact upd_same⟩ (fun i σ H' _ ⟨_, _, _, _, _, _, _, _, h, _⟩ => Same.tup h hS) ?_ ?_⟩
    · rintro i x σ H1 H2 hi ⟨y4, y5, y6, y7, y8, hs, c, rfl, sm, g1, g2, g3, g4, g5, g6⟩ hy
      obtain ⟨Tp, x1, x2, rfl, nT, rfl, e1, e2⟩ := hy
      cases e1
      have hi' : i < t.sch.length := by rw [vi_len] at hi; exact hi
      have hm := List.getElem?_eq_getElem hi'
      replace e2 : (vi t.sch)[i]? = some x2 := e2
      rw [vi_get hm] at e2
      cases e2
      have hi2 : i < t.size := by rw [← T.sch_len]; exact hi'
      obtain ⟨f1, f2⟩ := pre_succ hm
      obtain ⟨m, hmm⟩ : ∃ m, m = t.sch[i] := ⟨_, rfl⟩
      rw [← hmm] at f1 f2 hm ⊢
      have hps : (pre t i).size = i := pre_size (by omega)
      have hrun := T.runs_le (pre t i)
      have sT : Same H1 (upd H1 Tp (.tup [.int (i : Nat), .int (m : Int)])) := same_upd nT
      refine ⟨Tp, _, rfl, .inl (.inl upd_same), rfl, _, _, rfl, _, [], rfl, rfl, ?_⟩
      refine ⟨_, rfl, sz60 (by simp), fun in0 nin0 => ?_⟩
      have sI := same_upd (o := .lst [V.int ((i : Nat) : Int)]) nin0
      have s12 := sT.trans sI
      have hin : (upd (upd H1 Tp (.tup [.int (i : Nat), .int (m : Int)])) in0 (.lst [V.int ((i : Nat) : Int)])) in0 = some (.lst (vi (seg ((pre t i).start 0) (i + 1)))) := by
        rw [upd_same, T.start_zero _ 0 (by omega) rfl, hps, seg_one]; rfl
      have fr : ∀ {b : Addr} {o : HO}, H1 b = some o → in0 ≠ b := fun {b o} e z => by rw [z, sT _ _ e] at nin0; cases nin0
      refine ⟨_, rfl, _, rfl, by omega, by omega, for_range (lo := 0) (fun j σ H' => ∃ ins y7 y8, σ = [some (.ref a), some (.ref hd), some (.ref tm), some (.ref ct), some (.int ((i : Nat) : Int)), some (.int (m : Int)), some (.ref ins), y7, y8] ∧ Same H H' ∧ H' hd = some (.lst (hs.take ((pre t i).runs - j))) ∧ Hld H' [hd, tm, ct] (hs.take ((pre t i).runs - j)) (((pre t i).stk 0).take ((pre t i).runs - j)) ∧ H' tm = some (.lst (vi c)) ∧ H' ct = some (.lst (vi (t.rc.take i))) ∧ ins ∉ [hd, tm, ct] ∧ H' ins = some (.lst (vi (seg ((pre t i).start j) (i + 1)))))
        ⟨in0, y7, y8, rfl, sm.trans s12, ?_, ?_, s12 _ _ g3, s12 _ _ g6, not3 (fr g1) (fr g3) (fr g6), hin⟩ ?_ ?_⟩
      · have := g2.1
        rw [T.stk_len] at this
        rw [Nat.sub_zero, List.take_of_length_le (by omega)]
        exact s12 _ _ g1
      · rw [Nat.sub_zero]
        exact (g2.same s12).take _
      · rintro j σ H3 hj ⟨ins, y7, y8, rfl, sm3, k1, k2, k3, k4, k5, k6⟩
        have hj2 : j + 1 ≤ (pre t i).runs := by omega
        have ed : (pre t i).runs - j = ((pre t i).runs - (j + 1)) + 1 := by omega
        have hpr := stk_pair (pre t i) 0 j hj2
        rw [Nat.zero_add, Nat.zero_add] at hpr
        obtain ⟨c0, e1, e2, e3⟩ := k2.2 ((pre t i).runs - (j + 1)) _ (by rw [List.getElem?_take, if_pos (by omega)]; exact hpr)
        have hsl : hs.length = (pre t i).runs := by rw [g2.1, T.stk_len]
        have hlt : (hs.take ((pre t i).runs - j)).length = (pre t i).runs - j := by rw [List.length_take]; omega
        have hdl : (hs.take ((pre t i).runs - j)).dropLast = hs.take ((pre t i).runs - (j + 1)) := by
          rw [List.dropLast_eq_take, hlt, List.take_take]
          congr 1
          omega
        refine ⟨.ref hd, rfl, .inl ⟨rfl, _, .inl (.inl k1)⟩, hd, _, .ref c0, rfl, rfl, k1, by rw [hlt, show (pre t i).runs - j - 1 = (pre t i).runs - (j + 1) by omega]; exact e1, ?_⟩
        rw [hdl]
        have bk : ∀ {b : Addr} {o : HO}, b ≠ hd → H3 b = some o → (upd H3 hd (.lst (hs.take ((pre t i).runs - (j + 1))))) b = some o := fun hb e => by rw [upd_ne hb]; exact e
        have ha := start_anti (pre t i) j hj2
        have hb := T.start_le (pre t i) j (by omega)
        have c0h : c0 ≠ hd := fun e => e2 (by rw [e]; simp)
        have inh : ins ≠ hd := fun e => k5 (by rw [e]; simp)
        refine ⟨_, rfl, c0, ins, _, _, rfl, rfl, bk c0h e3, bk inh k6, sz60 (by simp [vi_len, seg_len]; omega), fun ni nni => ?_⟩
        have sN := same_upd (o := .lst (vi (seg ((pre t i).start (j + 1)) ((pre t i).start j)) ++ vi (seg ((pre t i).start j) (i + 1)))) nni
        have es : vi (seg ((pre t i).start (j + 1)) ((pre t i).start j)) ++ vi (seg ((pre t i).start j) (i + 1)) = vi (seg ((pre t i).start (j + 1)) (i + 1)) := by
          rw [← vi_app, seg_app (by omega) (by omega)]
        have k2' : Hld (upd H3 hd (.lst (hs.take ((pre t i).runs - (j + 1))))) [hd, tm, ct] (hs.take ((pre t i).runs - (j + 1))) (((pre t i).stk 0).take ((pre t i).runs - (j + 1))) := by
          have h := (k2.take ((pre t i).runs - (j + 1))).upd (b := hd) (o := .lst (hs.take ((pre t i).runs - (j + 1)))) (by simp)
          rw [List.take_take, List.take_take, Nat.min_eq_left (by omega)] at h
          exact h
        have fr3 : ∀ {b : Addr} {o : HO}, (upd H3 hd (.lst (hs.take ((pre t i).runs - (j + 1))))) b = some o → ni ≠ b := fun {b o} e z => by rw [z, e] at nni; cases nni
        refine ⟨ni, _, _, rfl, (Same.mut sm3 nhdH).trans sN, sN _ _ upd_same, k2'.same sN, sN _ _ (bk d1.symm k3), sN _ _ (bk d2.symm k4), not3 (fr3 upd_same) (fr3 (bk d1.symm k3)) (fr3 (bk d2.symm k4)), ?_⟩
        rw [← es]
        exact upd_same
      · rintro σ H3 ⟨ins, y7, y8, rfl, sm3, k1, k2, k3, k4, k5, k6⟩
        have em : ((m : Nat) : Int).toNat = m := by omega
        rw [em] at k1 k2 k6
        have hst := T.start_le (pre t i) m f2
        rw [hps] at hst
        obtain ⟨b0, hb0⟩ : ∃ b0, b0 = (pre t i).start m := ⟨_, rfl⟩
        rw [← hb0] at hst k6
        have d4 : ins ≠ hd := fun e => k5 (by rw [e]; simp)
        have d5 : ins ≠ tm := fun e => k5 (by rw [e]; simp)
        have d6 : ins ≠ ct := fun e => k5 (by rw [e]; simp)
        have hsl2 : (vi (seg b0 (i + 1))).length = i + 1 - b0 := by rw [vi_len, seg_len]
        refine ⟨.ref ins, rfl, ins, rfl, ⟨_, .inl (.inl k6)⟩, for_it (walk_list (xs := vi (seg b0 (i + 1)))) (fun j σ H' => ∃ y8 c', σ = [some (.ref a), some (.ref hd), some (.ref tm), some (.ref ct), some (.int ((i : Nat) : Int)), some (.int (m : Int)), some (.ref ins), y7, y8] ∧ Same H H' ∧ H' hd = some (.lst (hs.take ((pre t i).runs - m))) ∧ Hld H' [hd, tm, ct] (hs.take ((pre t i).runs - m)) (((pre t i).stk 0).take ((pre t i).runs - m)) ∧ H' tm = some (.lst (vi c')) ∧ c'.length = t.size ∧ (∀ k, k < t.size → c'[k]? = some (if b0 ≤ k ∧ k < b0 + j then (pre t i).wr.getD k 0 + 1 else (pre t i).wr.getD k 0)) ∧ H' ct = some (.lst (vi (t.rc.take i))) ∧ H' ins = some (.lst (vi (seg b0 (i + 1)))))
          ⟨_, c, rfl, sm3, k1, k2, k3, g4, fun k hk => by rw [if_neg (by omega)]; exact g5 k hk, k4, k6⟩ (fun j σ H' _ ⟨_, _, _, _, _, _, _, _, _, _, h⟩ => .inl (.inl h)) ?_ ?_⟩
        · rintro j x σ H4 H4' hj ⟨y8, c', rfl, sm4, l1, l2, l3, l4, l5, l6, l7⟩ ⟨rfl, hx⟩
          have hj2 : b0 + j < i + 1 := by omega
          rw [vi_get (seg_at hj2)] at hx
          cases hx
          have h6 := l5 (b0 + j) (by omega)
          rw [if_neg (by omega)] at h6
          refine ⟨.ref tm, rfl, _, rfl, tm, _, _, _, rfl, rfl, .inl (.inl l3), at_vi h6, _, _, rfl, rfl, .ref tm, rfl, _, rfl, tm, _, _, _, rfl, rfl, l3, ixN_of (by rw [vi_len]; omega), ?_⟩
          have e2 : (((pre t i).wr.getD (b0 + j) 0 : Nat) : Int) + 1 = (((pre t i).wr.getD (b0 + j) 0 + 1 : Nat) : Int) := by omega
          refine ⟨_, c'.set (b0 + j) ((pre t i).wr.getD (b0 + j) 0 + 1), rfl, Same.mut sm4 ntmH, by rw [upd_ne d1]; exact l1, l2.upd (by simp), ?_, by rw [List.length_set]; exact l4, fun k hk => ?_, by rw [upd_ne d3.symm]; exact l6, by rw [upd_ne d5]; exact l7⟩
          · rw [← vi_set, ← e2]; exact upd_same
          · by_cases hk2 : b0 + j = k
            · rw [← hk2, List.getElem?_set_self (by omega), if_pos (by omega)]
            · rw [List.getElem?_set_ne hk2, l5 k hk]
              by_cases hk3 : b0 ≤ k ∧ k < b0 + j
              · rw [if_pos hk3, if_pos (by omega)]
              · rw [if_neg hk3, if_neg (by omega)]
        · rintro σ H4 ⟨y8, c', rfl, sm4, l1, l2, l3, l4, l5, l6, l7⟩
          rw [hsl2] at l5
          have htl : (hs.take ((pre t i).runs - m)).length ≤ 60 := by rw [List.length_take]; omega
          refine ⟨.ref hd, rfl, .inl ⟨rfl, _, .inl (.inl l1)⟩, _, rfl, hd, _, _, rfl, rfl, l1, sz61 (by omega), ?_⟩
          have hs' : (pre t (i + 1)).stk 0 = ((pre t i).stk 0).take ((pre t i).runs - m) ++ [(b0, i + 1)] := by
            rw [f1, T.stk_push _ _ f2 0, hb0, hps]
            simp only [Nat.zero_add]
          have hH := (l2.snoc (c := ins) (p := (b0, i + 1)) k5 l7).upd (b := hd) (o := .lst (hs.take ((pre t i).runs - m) ++ [V.ref ins])) (by simp)
          have hhd' : (upd H4 hd (.lst (hs.take ((pre t i).runs - m) ++ [V.ref ins]))) hd = some (.lst (hs.take ((pre t i).runs - m) ++ [V.ref ins])) := upd_same
          have hct' : (upd H4 hd (.lst (hs.take ((pre t i).runs - m) ++ [V.ref ins]))) ct = some (.lst (vi (t.rc.take i))) := by rw [upd_ne d2.symm]; exact l6
          have htm' : (upd H4 hd (.lst (hs.take ((pre t i).runs - m) ++ [V.ref ins]))) tm = some (.lst (vi c')) := by rw [upd_ne d1.symm]; exact l3
          refine ⟨.ref ct, rfl, .inl ⟨rfl, _, .inl (.inl hct')⟩, .ref hd, rfl, hd, _, rfl, .inl (.inl (.inl hhd')), ct, _, _, rfl, rfl, hct', sz61 (by rw [vi_len, List.length_take]; omega), ?_⟩
          refine ⟨_, _, _, _, _, hs.take ((pre t i).runs - m) ++ [V.ref ins], c', rfl, Same.mut (Same.mut sm4 nhdH) nctH, by rw [upd_ne d2]; exact hhd', ?_, by rw [upd_ne d3]; exact htm', l4, fun k hk => ?_, ?_⟩
          · rw [hs']
            exact hH.upd (by simp)
          · rw [l5 k hk, f1, wr_step f2, hps, ← hb0]
            by_cases hk3 : b0 ≤ k ∧ k < i + 1
            · rw [if_pos (by omega), if_pos hk3]
            · rw [if_neg (by omega), if_neg hk3]
          · have erc := pre_runs hi2
            have hrl : (hs.take ((pre t i).runs - m) ++ [V.ref ins]).length = (pre t (i + 1)).runs := by
              have h := hH.1
              rw [← hs', T.stk_len] at h
              exact h
            rw [upd_same, hrl, List.take_add_one, erc, vi_app]
            rfl
    · rintro σ H1 ⟨y4, y5, y6, y7, y8, hs, c, rfl, sm, g1, g2, g3, g4, g5, g6⟩
      rw [hlen, pre_all] at g5
      rw [hlen, List.take_of_length_le (by rw [T.rc_len]; omega)] at g6
      have ecw : c = t.wr := list_by (by rw [g4, T.wr_len]) fun k hk => g5 k (by omega)
      rw [ecw] at g3
      refine ⟨_, rfl, _, rfl, sz60 (by simp), fun p np => ?_⟩
      have sp := same_upd (o := .tup [V.ref tm, V.ref ct]) np
      exact q _ p tm ct (sm.trans sp) ntmH nctH (.inl (.inl upd_same)) (sp _ _ g3) (sp _ _ g6)
end
def dPl (t : T) : PyData := .tuple [.tuple ((ci t.sch).map PyData.int), .int (t.runs : Int)]
theorem tf_dPl (t : T) : Tf (dPl t) := .tup fun d h => by
  rcases List.mem_cons.mp h with rfl | h
  · exact .tup (tf_ints _)
  · rcases List.mem_cons.mp h with rfl | h
    · exact .int _
    · cases h
theorem tf_dPls (ts : List T) : ∀ d, d ∈ ts.map dPl → Tf d := fun d h => by
  obtain ⟨t, _, rfl⟩ := List.mem_map.mp h
  exact tf_dPl t
theorem dPl_inv {K : PySem.W.Frag} {H : Hp} {v : V} {t : T} (h : Dp K H v (dPl t)) : ∃ p b, v = .ref p ∧ SqT K H p [.ref b, .int (t.runs : Int)] ∧ SqT K H b (vi t.sch) := by
  obtain ⟨p, xs, rfl, hS, hA⟩ := Dp.tupInv h
  cases hA with
  | cons h1 h2 =>
    cases h2 with
    | cons h3 h4 =>
      cases h4
      cases h3
      obtain ⟨b, rfl, hB⟩ := Dp.intsInv h1
      exact ⟨p, b, rfl, hS, by rw [vi_ci]; exact hB⟩
def fc : Nat → Nat
  | 0 => 1
  | n + 1 => (n + 1) * fc n
theorem fc_le {n : Nat} (h : n ≤ 6) : fc n ≤ 720 := by
  have : n = 0 ∨ n = 1 ∨ n = 2 ∨ n = 3 ∨ n = 4 ∨ n = 5 ∨ n = 6 := by omega
  rcases this with rfl | rfl | rfl | rfl | rfl | rfl | rfl <;> decide
section
variable {P : Program} {w : World} {K : PySem.W.Frag} {mg : Str → Option Value} {base : Heap}
def sp_L_plans (K : PySem.W.Frag) : Sp := fun vs H Q _ => ∃ (k : Nat), vs = [.int (k : Int)] ∧ k ≤ 6 ∧ ∀ H' l us (ts : List T), Same H H' → H l = none → H' l = some (.lst us) → DpAll K H' us (ts.map fun t => .tuple ((ci t.sch).map PyData.int)) → (∀ t, t ∈ ts → t.size = k) → ts.length ≤ 720 → (∀ t, t.size = k → t ∈ ts) → Q (.ref l) H'
theorem ok_L_plans (TX : Tx K mg) : FnOk P w K mg base CX0 1 TX.a_L_plans TX.fd_L_plans ["_law_count"] (sp_L_plans K) := by
  refine TX.f_L_plans.ok sc_L_plans (fun vs H Q E h => ?_) (fun cdv A outer s H vs Q E hr h => ?_)
  · obtain ⟨k, rfl, _⟩ := h; rfl
  · obtain ⟨k, rfl, hk, q⟩ := h
    refine ⟨_, (pss_cons (ps_set (i := 1) sc_L_plans.nd rfl (.inl rfl) (pe_lst (pa_cons (pe_tup (pa_cons (pe_tup pa_nil) (pa_cons pe_int pa_nil))) pa_nil)))
      (pss_cons (ps_for PassesOwn.never rfl (pi_range1 (by rfl) TX.b_range (pa_cons (pv 0) pa_nil)) (pg_name (i := 2) sc_L_plans.nd rfl (.inl rfl))
        (pss_cons (ps_set (i := 3) sc_L_plans.nd rfl (.inl rfl) (pe_lst pa_nil))
        (pss_cons (ps_for PassesOwn.never rfl (k_piL (K := K) rfl (pv 1)) (pg_tup rfl (pgs_cons (pg_name (i := 4) sc_L_plans.nd rfl (.inr rfl)) (pgs_cons (pg_name (i := 5) sc_L_plans.nd rfl (.inr rfl)) pgs_nil)))
          (pss_one (ps_expr (pe_bm PySem.F.plainAttrs_list PySem.F.slot_list_extend PySem.F.type_list_extend mt_extend (pv 3) (pa_cons (pe_lc (own := [("_law_folded", 6)]) (by rfl) sc_L_plans.nd (pi_range1 (by rfl) TX.b_range (pa_cons (pe_op op_add (pv 5) pe_int) pa_nil)) (blkOk_by (own := [("_law_folded", 6)]) (N := N_L_plans) (sc := defScope s_L_plans) (by decide +kernel)) (fun _ _ _ _ _ => (pg_name (i := 6) sc_L_plans.nd rfl (Or.inl rfl))) (fun _ _ _ _ _ => pts_nil) (fun _ _ _ _ _ => (pe_tup (pa_cons (pe_op (k_catT (K := K) rfl) (pv 4) (pe_tup (pa_cons (pv 6) pa_nil))) (pa_cons (pe_op op_add (pe_op op_sub (pv 5) (pv 6)) pe_int) pa_nil))))) pa_nil)))))
        (pss_one (ps_set (i := 1) sc_L_plans.nd rfl (.inl rfl) (pv 3))))))
      (pss_one (ps_ret (pe_lc (own := [("_law_plan", 4), ("_law_runs", 5)]) (by rfl) sc_L_plans.nd (k_piL (K := K) rfl (pv 1)) (blkOk_by (own := [("_law_plan", 4), ("_law_runs", 5)]) (N := N_L_plans) (sc := defScope s_L_plans) (by decide +kernel)) (fun _ _ _ _ _ => (k_pgT2 (K := K) rfl rfl (pg_name (i := 4) sc_L_plans.nd rfl (Or.inl rfl)) (pg_name (i := 5) sc_L_plans.nd rfl (Or.inl rfl)))) (fun _ _ _ _ _ => pts_nil) (fun _ _ _ _ _ => (pv 4))))))), ?_⟩
    refine ⟨sz60 (by simp), fun e0 ne0 => ⟨sz60 (by simp), fun e1 ne1 => ⟨sz60 (by simp), fun f nf => ?_⟩⟩⟩
    have s1 := same_upd (o := .tup []) ne0
    have s2 := same_upd (o := .tup [V.ref e0, V.int 0]) ne1
    have s3 := same_upd (o := .lst [V.ref e1]) nf
    have s13 := (s1.trans s2).trans s3
    have ek : ((k : Nat) : Int).toNat = k := by omega
    refine ⟨_, rfl, _, rfl, by omega, by omega, for_range (lo := 0) (fun i σ H' => ∃ f us y2 y3 y4 y5 y6, ∃ ts : List T, σ = [some (.int (k : Int)), some (.ref f), y2, y3, y4, y5, y6] ∧ Same H H' ∧ H' f = some (.lst us) ∧ DpAll K H' us (ts.map dPl) ∧ (∀ t, t ∈ ts → t.size = i) ∧ ts.length ≤ fc i ∧ ∀ t : T, t.size = i → t ∈ ts)
      ⟨f, [.ref e1], none, none, none, none, none, [.nil], rfl, s13, upd_same, .cons ?_ .nil, by simp [T.size], by decide, fun t ht => ?_⟩ ?_ ?_⟩
    · refine .tup (Same.tup s3 (.inl (.inl upd_same))) (.cons ?_ (.cons (.int _) .nil))
      exact .tup (Same.tup (s2.trans s3) (.inl (.inl upd_same))) .nil
    · cases t with
      | nil => simp
      | node l r => simp only [T.size] at ht; omega
    · rintro i σ H1 hi ⟨f, us, y2, y3, y4, y5, y6, ts, rfl, sm, g1, g2, g3, g4, g5⟩
      rw [ek] at hi
      have hfc := fc_le (n := i) (by omega)
      have hfc2 := fc_le (n := i + 1) (by omega)
      have hul := DpAll.len g2
      rw [List.length_map] at hul
      refine ⟨sz60 (by simp), fun lg nlg => ?_⟩
      have sl := same_upd (o := .lst []) nlg
      have nlH : H lg = none := sm.free nlg
      have nlf : f ≠ lg := fun e => by rw [← e, g1] at nlg; cases nlg
      refine ⟨.ref f, rfl, f, rfl, ⟨_, .inl (.inl (sl _ _ g1))⟩, for_it (walk_list (xs := us)) (fun j σ H' => ∃ ls y4 y5 y6, ∃ tl : List T, σ = [some (.int (k : Int)), some (.ref f), some (.int (0 + (i : Nat))), some (.ref lg), y4, y5, y6] ∧ Same H H' ∧ H' f = some (.lst us) ∧ DpAll K H' us (ts.map dPl) ∧ H' lg = some (.lst ls) ∧ DpAll K H' ls (tl.map dPl) ∧ (∀ t, t ∈ tl → t.size = i + 1) ∧ tl.length ≤ j * (i + 1) ∧ ∀ (u : T) (m : Nat), u ∈ ts.take j → m ≤ u.runs → u.push m ∈ tl)
        ⟨[], y4, y5, y6, [], rfl, sm.trans sl, sl _ _ g1, DpAll.same sl g2, upd_same, .nil, by simp, by simp, by simp⟩ (fun j σ H' _ ⟨_, _, _, _, _, _, _, h, _⟩ => .inl (.inl h)) ?_ ?_⟩
      · rintro j x σ H2 H2' hj ⟨ls, y4, y5, y6, tl, rfl, sm2, k1, k2, k3, k4, k5, k6, k7⟩ ⟨rfl, hx⟩
        have hjt : j < ts.length := by omega
        obtain ⟨v, hv, hD⟩ := DpAll.get k2 (i := j) (d := dPl ts[j]) (by rw [List.getElem?_map, List.getElem?_eq_getElem hjt]; rfl)
        rw [hx] at hv
        cases hv
        have hts := g3 ts[j] (List.getElem_mem hjt)
        have htk : ts.take (j + 1) = ts.take j ++ [ts[j]] := by rw [List.take_add_one, List.getElem?_eq_getElem hjt]; rfl
        generalize ts[j] = t at hD hts htk
        obtain ⟨p, b, rfl, hp, hb⟩ := dPl_inv hD
        have hrs := T.runs_le t
        refine ⟨p, _, rfl, hp, rfl, _, _, rfl, _, [], rfl, rfl, ?_⟩
        refine ⟨.ref lg, rfl, .inl ⟨rfl, _, .inl (.inl k3)⟩, ?_⟩
        refine ⟨_, rfl, _, _, rfl, rfl, _, rfl, by omega, by omega, fun D nD => ?_⟩
        have er : ((t.runs : Int) + 1).toNat = t.runs + 1 := by omega
        refine lc_all (K := K) walk_range (((List.range (t.runs + 1)).map fun m => t.push m).map dPl) (by simp [er]) (tf_dPls _) (by omega) nD (fun _ _ => trivial) ?_ ?_ (fun x σ' H' Q Q' h => h _ _) (fun σ' H' Q Q' h => h _ _)
        · rintro m y Hy Hy' hm sy hy d hd R hR
          obtain ⟨rfl, rfl⟩ := hy
          have hm2 : m < t.runs + 1 := by omega
          have em : (0 : Int) + ((m : Nat) : Int) = ((m : Nat) : Int) := by omega
          dsimp only
          rw [em]
          rw [List.getElem?_map, List.getElem?_map, List.getElem?_range hm2] at hd
          cases hd
          refine ⟨rfl, rfl, .ref b, rfl, _, rfl, sz60 (by simp), fun o no => ?_⟩
          have so := same_upd (o := .tup [V.int ((m : Nat) : Int)]) no
          refine cat_read (Same.tup (sy.trans so) hb) (.inl (.inl upd_same)) (by simp [vi_len, T.sch_len]; omega) fun o2 G2 s2' h2' => ?_
          refine ⟨_, rfl, _, rfl, _, _, rfl, rfl, _, _, rfl, rfl, sz60 (by simp), fun o3 no3 => ?_⟩
          have s3' := same_upd (o := .tup [V.ref o2, V.int ((t.runs : Int) - ((m : Nat) : Int) + 1)]) no3
          refine hR _ _ ((so.trans s2').trans s3') ?_
          have e1 := T.push_runs t m (by omega)
          have e2 : (t.runs : Int) - ((m : Nat) : Int) + 1 = ((t.push m).runs : Int) := by omega
          refine .tup (.inl (.inl upd_same)) (.cons ?_ (.cons ?_ .nil))
          · refine dp_tup (Same.tup s3' ?_)
            rw [← vi_ci, T.push_sch t m (by omega), vi_app]
            exact h2'
          · rw [← e2]
            exact .int _
        · intro H3 acc s3' ha hA3
          have l1 := DpAll.len k4
          have l2 := DpAll.len hA3
          simp only [List.length_map, List.length_range] at l1 l2
          have hjb : j * (i + 1) ≤ 720 * 7 := Nat.mul_le_mul (by omega) (by omega)
          have hl3 := s3' _ _ k3
          refine ⟨lg, D, ls, acc, rfl, rfl, hl3, ha, sz60 (by omega), ?_⟩
          have kp : Keep K H3 (upd H3 lg (.lst (ls ++ acc))) := But.keep But.upd hl3
          refine ⟨ls ++ acc, _, _, _, tl ++ (List.range (t.runs + 1)).map fun m => t.push m, rfl, Same.mut (sm2.trans s3') nlH, by rw [upd_ne nlf]; exact s3' _ _ k1, DpAll.keep kp (tf_dPls _) (DpAll.same s3' k2), upd_same, ?_, ?_, ?_, fun u m hu hm => ?_⟩
          · refine DpAll.keep kp (tf_dPls _) ?_
            rw [List.map_append]
            exact DpAll.append (DpAll.same s3' k4) hA3
          · intro t' ht'
            rcases List.mem_append.mp ht' with h | h
            · exact k5 t' h
            · obtain ⟨m, hm, rfl⟩ := List.mem_map.mp h
              have := List.mem_range.mp hm
              rw [T.push_size t m (by omega), hts]
          · rw [List.length_append, List.length_map, List.length_range, Nat.succ_mul]
            omega
          · rw [htk] at hu
            rcases List.mem_append.mp hu with h | h
            · exact List.mem_append_left _ (k7 u m h hm)
            · rw [List.mem_singleton.mp h] at hm ⊢
              exact List.mem_append_right _ (List.mem_map.mpr ⟨m, List.mem_range.mpr (by omega), rfl⟩)
      · rintro σ H2 ⟨ls, y4, y5, y6, tl, rfl, sm2, k1, k2, k3, k4, k5, k6, k7⟩
        refine ⟨_, rfl, lg, ls, _, _, _, _, _, tl, rfl, sm2, k3, k4, k5, ?_⟩
        have : us.length * (i + 1) ≤ fc i * (i + 1) := Nat.mul_le_mul_right _ (by omega)
        have e : fc (i + 1) = (i + 1) * fc i := rfl
        refine ⟨by rw [e, Nat.mul_comm (i + 1)]; omega, fun t ht => ?_⟩
        obtain ⟨m, hm⟩ : ∃ m, t.sch[i]? = some m := ⟨_, List.getElem?_eq_getElem (show i < t.sch.length by rw [T.sch_len]; omega)⟩
        obtain ⟨f1, f2⟩ := pre_succ hm
        have f3 := pre_all t
        rw [ht, f1] at f3
        rw [← f3]
        exact k7 _ _ (by rw [List.take_of_length_le (by omega)]; exact g5 _ (pre_size (by omega))) f2
    · rintro σ H1 ⟨f, us, y2, y3, y4, y5, y6, ts, rfl, sm, g1, g2, g3, g4, g5⟩
      rw [ek] at g3 g4 g5
      have hfc := fc_le (n := k) hk
      have hul := DpAll.len g2
      rw [List.length_map] at hul
      refine ⟨.ref f, rfl, f, rfl, ⟨_, .inl (.inl g1)⟩, fun D nD => ?_⟩
      refine lc_all (K := K) (walk_list (xs := us)) (ts.map fun t => .tuple ((ci t.sch).map PyData.int)) (by rw [List.length_map, hul]) (fun d h => by obtain ⟨t, _, rfl⟩ := List.mem_map.mp h; exact .tup (tf_ints _)) (by omega) nD (fun H' s' => .inl (.inl (s' _ _ g1))) ?_ ?_ mono_pair (fun σ' H' Q Q' h => h _ _)
      · rintro i x Hx Hx' hi sx ⟨rfl, hx⟩ d hd R hR
        have hit : i < ts.length := by omega
        rw [List.getElem?_map, List.getElem?_eq_getElem hit] at hd
        cases hd
        obtain ⟨v, hv, hD⟩ := DpAll.get (DpAll.same sx g2) (i := i) (d := dPl ts[i]) (by rw [List.getElem?_map, List.getElem?_eq_getElem hit]; rfl)
        rw [hx] at hv
        cases hv
        obtain ⟨p, b, rfl, hp, hb⟩ := dPl_inv hD
        exact ⟨p, _, rfl, hp, rfl, _, _, rfl, _, _, rfl, rfl, rfl, rfl, _, rfl, hR _ _ (Same.refl _) (dp_tup (by rw [← vi_ci]; exact hb))⟩
      · intro H2 acc s2' ha hA2
        exact q _ D acc ts (sm.trans s2') (sm.free nD) ha hA2 g3 (by omega) g5
end
section
variable {P : Program} {w : World} {K : PySem.W.Frag} {mg : Str → Option Value} {base : Heap}
def sp_L_drawn_plan (K : PySem.W.Frag) : Sp := fun vs H Q _ => ∃ (a : Addr) (k : Nat) (n : Int), vs = [.ref a, .int (k : Int)] ∧ Pot H a n ∧ n ≤ 900000 ∧ k ≤ 60 ∧ ∀ H' p (t : T), But a H H' → Pot H' a (n + 200) → t.size = k → SqT K H' p (vi t.sch) → Q (.ref p) H'
theorem ok_L_drawn_plan (TX : Tx K mg) : FnOk P w K mg base CX0 3 TX.a_L_drawn_plan TX.fd_L_drawn_plan ["_law_pot_here", "_law_count"] (sp_L_drawn_plan K) := by
  refine TX.f_L_drawn_plan.ok sc_L_drawn_plan (fun vs H Q E h => ?_) (fun cdv A outer s H vs Q E hr h => ?_)
  · obtain ⟨a, k, n, rfl, _⟩ := h; rfl
  · obtain ⟨a, k, n, rfl, hp, hn, hk, q⟩ := h
    refine ⟨_, (pss_cons (ps_par3 (i := 2) (j := 3) (l := 4) (by rfl) sc_L_drawn_plan.nd rfl rfl rfl (by decide) (by decide) (by decide) rfl rfl rfl (pa_cons (pe_tup pa_nil) (pa_cons pe_int (pa_cons (pe_call (ok_L_take TX) (hr.mono (by decide)) (by rfl) TX.g_L_take TX.f_L_take.kp TX.bd_L_take .nil pass0 (pa_cons (pv 0) (pa_cons pe_int pa_nil))) pa_nil))) (by rfl))
      (pss_cons (ps_for PassesOwn.never rfl (pi_range1 (by rfl) TX.b_range (pa_cons (pv 1) pa_nil)) (pg_name (i := 5) sc_L_drawn_plan.nd rfl (.inl rfl))
        (pss_cons (ps_set (i := 6) sc_L_drawn_plan.nd rfl (.inl rfl) (pe_call (ok_L_of TX) (hr.mono (by decide)) (by rfl) TX.g_L_of TX.f_L_of.kp TX.bd_L_of .nil pass0 (pa_cons (pv 0) (pa_cons (pe_op op_cat (pe_slice sl_list (pe_lst (pa_cons (pe_call (ok_L_take TX) (hr.mono (by decide)) (by rfl) TX.g_L_take TX.f_L_take.kp TX.bd_L_take .nil pass0 (pa_cons (pv 0) (pa_cons (pe_op op_add (pv 3) pe_int) pa_nil))) (pa_cons (pe_callB (id := "min") (call_min2 rfl) (by rfl) TX.b_min (by decide +kernel) (pa_cons (pv 3) (pa_cons (pe_call (ok_L_take TX) (hr.mono (by decide)) (by rfl) TX.g_L_take TX.f_L_take.kp TX.bd_L_take .nil pass0 (pa_cons (pv 0) (pa_cons pe_int pa_nil))) pa_nil))) (pa_cons (pv 3) (pa_cons pe_int pa_nil))))) (po_some (pv 4)) po_none) (pe_lst (pa_cons pe_int pa_nil))) pa_nil))))
        (pss_one (ps_par (i := 2) (j := 3) (by rfl) sc_L_drawn_plan.nd rfl rfl (by decide) rfl rfl (pa_cons (pe_op (k_catT (K := K) rfl) (pv 2) (pe_tup (pa_cons (pv 6) pa_nil))) (pa_cons (pe_op op_add (pe_op op_sub (pv 3) (pv 6)) pe_int) pa_nil)) (by rfl)))))
      (pss_one (ps_ret (pv 2))))), ?_⟩
    refine ⟨sz60 (by simp), fun e0 ne0 => ?_⟩
    have s1 := same_upd (o := .tup []) ne0
    refine ⟨.ref a, rfl, a, 4, n, rfl, hp.same s1, by omega, by decide, by decide, fun H2 sy b2 p2 y0 y1 => ⟨_, _, _, rfl, ?_⟩⟩
    have he2 : SqT K H2 e0 (vi T.nil.sch) := ((hp.same s1).keep (K := K) b2) _ _ (.inl (.inl upd_same))
    have ek : ((k : Nat) : Int).toNat = k := by omega
    refine ⟨_, rfl, _, rfl, by omega, by omega, for_range (lo := 0) (fun i σ H' => ∃ (p : Addr) (t : T) (y5 y6 : Option V), σ = [some (.ref a), some (.int (k : Int)), some (.ref p), some (.int (t.runs : Int)), some (.int sy), y5, y6] ∧ But a H H' ∧ Pot H' a (n + 1 + 3 * (i : Int)) ∧ SqT K H' p (vi t.sch) ∧ t.size = i)
      ⟨e0, .nil, none, none, rfl, (But.of s1).trans b2, p2.mono (by omega), he2, rfl⟩ ?_ ?_⟩
    · rintro i σ H3 hi ⟨p, t, y5, y6, rfl, b3, p3, hpl, ht⟩
      rw [ek] at hi
      have hrs := T.runs_le t
      refine ⟨.ref a, rfl, .ref a, rfl, _, rfl, _, _, rfl, rfl, a, _, _, rfl, p3, by omega, by omega, by omega, fun H4 r1 b4 p4 r10 r11 => ?_⟩
      refine ⟨_, rfl, .ref a, rfl, a, 3, _, rfl, p4, by omega, by decide, by decide, fun H5 r2 b5 p5 r20 r21 => ⟨_, _, rfl, ?_⟩⟩
      obtain ⟨mn, hmn⟩ : ∃ mn : Int, mn = (if r2 < (t.runs : Int) then r2 else (t.runs : Int)) := ⟨_, rfl⟩
      have hmn2 : 0 ≤ mn ∧ mn ≤ (t.runs : Int) := by rw [hmn]; split <;> omega
      rw [← hmn]
      refine ⟨_, rfl, sz60 (by simp), fun l1 nl1 => ?_⟩
      have s6 := same_upd (o := .lst [V.int r1, V.int mn, V.int (t.runs : Int), V.int 0]) nl1
      refine ⟨_, rfl, _, rfl, ?_⟩
      dsimp only [tNoPart]
      refine ⟨l1, _, rfl, .inl (.inl upd_same), fun c nc => ?_⟩
      obtain ⟨xs, hxs⟩ : ∃ xs, xs = cutV [V.int r1, V.int mn, V.int (t.runs : Int), V.int 0] (some sy) none := ⟨_, rfl⟩
      have hxs2 : xs = [V.int r1, V.int mn, V.int (t.runs : Int), V.int 0].drop sy.toNat := by
        have := cut_from (xs := [V.int r1, V.int mn, V.int (t.runs : Int), V.int 0]) (k := sy.toNat) (by simp; omega)
        rw [show ((sy.toNat : Nat) : Int) = sy by omega] at this
        rw [hxs, this]
      rw [← hxs]
      have s7 := same_upd (o := .lst xs) nc
      refine ⟨sz60 (by simp), fun l2 nl2 => ?_⟩
      have s8 := same_upd (o := .lst [V.int 0]) nl2
      have hxl : xs.length ≤ 4 := by rw [hxs2, List.length_drop]; simp
      refine ⟨c, l2, _, _, rfl, rfl, s8 _ _ upd_same, upd_same, sz60 (by simp; omega), fun l3 nl3 => ?_⟩
      have s9 := same_upd (o := .lst (xs ++ [V.int 0])) nl3
      have s69 := ((s6.trans s7).trans s8).trans s9
      have p9 := p5.same s69
      have hl3a : l3 ≠ a := (p5.same ((s6.trans s7).trans s8)).ne nl3
      refine ⟨a, l3, _, _, rfl, p9, by omega, upd_same, hl3a, by simp, by simp; omega, fun H10 v b10 p10 hv => ?_⟩
      obtain ⟨m, rfl, hm⟩ : ∃ m : Nat, v = .int (m : Int) ∧ m ≤ t.runs := by
        have hv2 : v ∈ [V.int r1, V.int mn, V.int (t.runs : Int), V.int 0] := by
          rcases List.mem_append.mp hv with h | h
          · rw [hxs2] at h
            exact List.mem_of_mem_drop h
          · rw [List.mem_singleton.mp h]; simp
        simp only [List.mem_cons, List.not_mem_nil, or_false] at hv2
        rcases hv2 with rfl | rfl | rfl | rfl
        · exact ⟨r1.toNat, by congr 1; omega, by omega⟩
        · exact ⟨mn.toNat, by congr 1; omega, by omega⟩
        · exact ⟨t.runs, rfl, Nat.le_refl _⟩
        · exact ⟨0, rfl, by omega⟩
      have b310 : But a H3 H10 := ((b4.trans b5).trans (But.of s69)).trans b10
      have hp10 := (p3.keep (K := K) b310) _ _ hpl
      refine ⟨.ref p, rfl, _, rfl, sz60 (by simp), fun o no => ?_⟩
      have so := same_upd (o := .tup [V.int (m : Int)]) no
      refine cat_read (Same.tup so hp10) (.inl (.inl upd_same)) (by simp [vi_len, T.sch_len]; omega) fun p' G s' h' => ?_
      refine ⟨_, rfl, _, rfl, _, _, rfl, rfl, _, _, rfl, rfl, _, _, rfl, ?_⟩
      have e1 := T.push_runs t m hm
      refine ⟨p', t.push m, some (.int (0 + ((i : Nat) : Int))), some (.int (m : Int)), ?_, (b3.trans b310).trans (But.of (so.trans s')), (p10.same (so.trans s')).mono (by omega), ?_, by rw [T.push_size t m hm, ht]⟩
      · show [_, _, _, _, _, _, _] = [_, _, _, _, _, _, _]
        have e2 : (t.runs : Int) - (m : Int) + 1 = ((t.push m).runs : Int) := by omega
        rw [← e2]
      · rw [T.push_sch t m hm, vi_app]
        exact h'
    · rintro σ H3 ⟨p, t, y5, y6, rfl, b3, p3, hpl, ht⟩
      rw [ek] at p3 ht
      exact ⟨_, rfl, q _ p t b3 (p3.mono (by omega)) ht hpl⟩
end
theorem dot_rev : ∀ (xs : List Int) (ns : List Nat), xs.length = ns.length → dot xs.reverse ns.reverse = dot xs ns
  | [], [], _ => rfl
  | x :: xs, n :: ns, h => by
    have ih := dot_rev xs ns (by simpa using h)
    have e : (List.reverse xs).length = (List.reverse ns).length := by simpa using h
    unfold dot at ih ⊢
    rw [List.reverse_cons, List.reverse_cons, List.zipWith_append e, List.sum_append, ih]
    simp
    omega
def wi (t : T) (k c : Nat) : Bool := t.rc.all (fun n => decide (n ≤ k)) && t.wr.all (fun n => decide (n ≤ c))
theorem wi_mir (t : T) (k c : Nat) : wi t.mir c k = wi t k c := by
  unfold wi
  rw [mir_rc, mir_wr, List.all_reverse, List.all_reverse, Bool.and_comm]
theorem max_all {ns : List Nat} {k : Nat} {m : Int} (h1 : m ∈ (0 : Int) :: ci ns) (h2 : ∀ y, y ∈ (0 : Int) :: ci ns → y ≤ m) : decide (m ≤ (k : Int)) = ns.all fun n => decide (n ≤ k) := by
  by_cases h : ∀ n, n ∈ ns → n ≤ k
  · have e : (ns.all fun n => decide (n ≤ k)) = true := List.all_eq_true.mpr fun n hn => decide_eq_true (h n hn)
    rw [e]
    refine decide_eq_true ?_
    rcases List.mem_cons.mp h1 with rfl | h1
    · omega
    · unfold ci at h1
      obtain ⟨n, hn, rfl⟩ := List.mem_map.mp h1
      have := h n hn
      omega
  · have e : (ns.all fun n => decide (n ≤ k)) = false := by
      rw [Bool.eq_false_iff]
      intro z
      exact h fun n hn => of_decide_eq_true (List.all_eq_true.mp z n hn)
    rw [e]
    refine decide_eq_false fun z => h fun n hn => ?_
    have := h2 (n : Int) (List.mem_cons_of_mem _ (List.mem_map.mpr ⟨n, hn, rfl⟩))
    omega
theorem cat0 (ns : List Nat) : [V.int 0] ++ vi ns = (ci (0 :: ns)).map V.int := by rw [← vi_ci]; rfl
theorem ci_pos (ns : List Nat) : 0 < (ci (0 :: ns)).length := by simp [ci]
theorem lds_rev {ns : List Int} (h : Lds ns) : Lds ns.reverse := fun x hx => h x (List.mem_reverse.mp hx)
theorem vi_rev (ns : List Nat) : (vi ns).reverse = vi ns.reverse := by simp [vi]
theorem ints_rev (ns : List Int) : (ns.map V.int).reverse = ns.reverse.map V.int := by simp
section
variable {P : Program} {w : World} {K : PySem.W.Frag} {mg : Str → Option Value} {base : Heap}
def sp_L_within (K : PySem.W.Frag) : Sp := fun vs H Q _ => ∃ (a : Addr) (t : T) (b c : Nat), vs = [.ref a, .int (b : Int), .int (c : Int)] ∧ SqT K H a (vi t.sch) ∧ t.size ≤ 60 ∧ ∀ H', Same H H' → Q (.bl (wi t b c)) H'
theorem ok_L_within (TX : Tx K mg) : FnOk P w K mg base CX0 2 TX.a_L_within TX.fd_L_within ["_law_plan", "_law_k", "_law_c"] (sp_L_within K) := by
  refine TX.f_L_within.ok sc_L_within (fun vs H Q E h => ?_) (fun cdv A outer s H vs Q E hr h => ?_)
  · obtain ⟨a, t, b, c, rfl, _⟩ := h; rfl
  · obtain ⟨a, t, b, c, rfl, hA, hz, q⟩ := h
    refine ⟨_, (pss_cons (ps_asg (pe_call (ok_L_counted TX) (hr.mono (by decide)) (by rfl) TX.g_L_counted TX.f_L_counted.kp TX.bd_L_counted .nil pass0 (pa_cons (pv 0) pa_nil)) (pg_tup rfl (pgs_cons (pg_name (i := 3) sc_L_within.nd rfl (.inl rfl)) (pgs_cons (pg_name (i := 4) sc_L_within.nd rfl (.inl rfl)) pgs_nil))))
      (pss_one (ps_ret (pe_and (pe_cmpR op_le (pe_callB (id := "max") (cr_max rfl) (by rfl) TX.b_max (by decide +kernel) (pa_cons (pe_op op_cat (pe_lst (pa_cons pe_int pa_nil)) (pv 4)) pa_nil)) (pv 1) (nomark _)) (pe_one (pe_cmpR op_le (pe_callB (id := "max") (cr_max rfl) (by rfl) TX.b_max (by decide +kernel) (pa_cons (pe_op op_cat (pe_lst (pa_cons pe_int pa_nil)) (pv 3)) pa_nil)) (pv 2) (nomark _))))))), ?_⟩
    refine ⟨.ref a, rfl, a, t, rfl, hA, hz, fun H1 p tm ct s1 _ _ h1 h2 h3 => ?_⟩
    refine ⟨p, _, rfl, h1, rfl, _, _, rfl, _, _, rfl, rfl, ?_⟩
    refine ⟨sz60 (by simp), fun z nz => ?_⟩
    have s2 := same_upd (o := .lst [V.int 0]) nz
    refine ⟨.ref ct, rfl, z, ct, _, _, rfl, rfl, upd_same, s2 _ _ h3, sz60 (by simp [vi_len, T.rc_len]; omega), fun l nl => ?_⟩
    have s3 := same_upd (o := .lst ([V.int 0] ++ vi t.rc)) nl
    refine ⟨l, ci (0 :: t.rc), rfl, .inl (.inl (by rw [← cat0]; exact upd_same)), ci_pos _, fun mi hm hall => ?_⟩
    have hma := max_all (k := b) hm hall
    have s13 := (s1.trans s2).trans s3
    refine ⟨_, rfl, _, _, rfl, rfl, _, rfl, ?_⟩
    refine ite2 (fun hc1 => ?_) (fun hc1 => ?_)
    · refine ⟨sz60 (by simp), fun z2 nz2 => ?_⟩
      have s4 := same_upd (o := .lst [V.int 0]) nz2
      have s24 := (s2.trans s3).trans s4
      refine ⟨.ref tm, rfl, z2, tm, _, _, rfl, rfl, upd_same, s24 _ _ h2, sz60 (by simp [vi_len, T.wr_len]; omega), fun l2 nl2 => ?_⟩
      have s5 := same_upd (o := .lst ([V.int 0] ++ vi t.wr)) nl2
      refine ⟨l2, ci (0 :: t.wr), rfl, .inl (.inl (by rw [← cat0]; exact upd_same)), ci_pos _, fun mi2 hm2 hall2 => ?_⟩
      have hmb := max_all (k := c) hm2 hall2
      refine ⟨_, rfl, _, _, rfl, rfl, ?_⟩
      have q' := q _ ((s1.trans s24).trans s5)
      have e : wi t b c = decide (mi2 ≤ (c : Int)) := by
        unfold wi
        rw [← hma, ← hmb, hc1, Bool.true_and]
      rw [e] at q'
      exact q'
    · have q' := q _ s13
      have hc : decide (mi ≤ (b : Int)) = false := by simpa using hc1
      have e : wi t b c = false := by
        unfold wi
        rw [← hma, hc, Bool.false_and]
      rw [e] at q'
      exact q'
def sp_L_one_right (K : PySem.W.Frag) : Sp := fun vs H Q _ => ∃ (a b c : Addr) (t : T) (ss rs : List Int), vs = [.ref a, .ref b, .ref c] ∧ SqT K H a (vi t.sch) ∧ SqT K H b (ss.map V.int) ∧ SqT K H c (rs.map V.int) ∧ ss.length = t.size ∧ rs.length = t.size ∧ t.size ≤ 60 ∧ Lds ss ∧ Lds rs ∧ ∀ H', Same H H' → Q (.bl true) H'
theorem ok_L_one_right (TX : Tx K mg) : FnOk P w K mg base CX0 9 TX.a_L_one_right TX.fd_L_one_right ["_law_plan", "_law_bulk", "_law_looks"] (sp_L_one_right K) := by
  refine TX.f_L_one_right.ok sc_L_one_right (fun vs H Q E h => ?_) (fun cdv A outer s H vs Q E hr h => ?_)
  · obtain ⟨a, b, c, t, ss, rs, rfl, _⟩ := h; rfl
  · obtain ⟨a, b, c, t, ss, rs, rfl, hA, hB, hC, l1, l2, hz, dS, dR, q⟩ := h
    refine ⟨_, (pss_cons (ps_set (i := 3) sc_L_one_right.nd rfl (.inl rfl) (pe_call (ok_mirror TX) (hr.mono (by decide)) (by rfl) TX.g_mirror TX.f_mirror.kp TX.bd_mirror .nil pass0 (pa_cons (pv 0) pa_nil)))
      (pss_cons (ps_par (i := 4) (j := 5) (by rfl) sc_L_one_right.nd rfl rfl (by decide) rfl rfl (pa_cons (pe_revT (K := K) rfl (pv 2)) (pa_cons (pe_revT (K := K) rfl (pv 1)) pa_nil)) (by rfl))
      (pss_cons (ps_if (PW.pt (pw_or (pt_cmpR (op_neD hr.units) (pe_call (ok_mirror TX) (hr.mono (by decide)) (by rfl) TX.g_mirror TX.f_mirror.kp TX.bd_mirror .nil pass0 (pa_cons (pv 3) pa_nil)) (pv 0) (nomark _)) (pw_or1 (pt_cmpR op_ne (pe_call (ok_work TX) (hr.mono (by decide)) (by rfl) TX.g_work TX.f_work.kp TX.bd_work .nil pass0 (pa_cons (pv 3) (pa_cons (pv 4) (pa_cons (pv 5) pa_nil)))) (pe_call (ok_work TX) (hr.mono (by decide)) (by rfl) TX.g_work TX.f_work.kp TX.bd_work .nil pass0 (pa_cons (pv 0) (pa_cons (pv 1) (pa_cons (pv 2) pa_nil)))) (nomark _)))))
        (pss_one (ps_ret pe_bl))
        pss_nil)
      (pss_cons (ps_if (pt_cmpR (op_neD hr.units) (pe_lst (pa_cons (pe_call (ok_write_work TX) (hr.mono (by decide)) (by rfl) TX.g_write_work TX.f_write_work.kp TX.bd_write_work .nil pass0 (pa_cons (pv 3) (pa_cons (pv 4) pa_nil))) (pa_cons (pe_call (ok_read_work TX) (hr.mono (by decide)) (by rfl) TX.g_read_work TX.f_read_work.kp TX.bd_read_work .nil pass0 (pa_cons (pv 3) (pa_cons (pv 5) pa_nil))) pa_nil))) (pe_lst (pa_cons (pe_call (ok_read_work TX) (hr.mono (by decide)) (by rfl) TX.g_read_work TX.f_read_work.kp TX.bd_read_work .nil pass0 (pa_cons (pv 0) (pa_cons (pv 2) pa_nil))) (pa_cons (pe_call (ok_write_work TX) (hr.mono (by decide)) (by rfl) TX.g_write_work TX.f_write_work.kp TX.bd_write_work .nil pass0 (pa_cons (pv 0) (pa_cons (pv 1) pa_nil))) pa_nil))) (nomark _))
        (pss_one (ps_ret pe_bl))
        pss_nil)
      (pss_one (ps_ret (pe_and (pe_cmpR (op_eqD hr.units) (pe_revT (K := K) rfl (pe_call (ok_writes TX) (hr.mono (by decide)) (by rfl) TX.g_writes TX.f_writes.kp TX.bd_writes .nil pass0 (pa_cons (pv 3) pa_nil))) (pe_call (ok_run_counts TX) (hr.mono (by decide)) (by rfl) TX.g_run_counts TX.f_run_counts.kp TX.bd_run_counts .nil pass0 (pa_cons (pv 0) pa_nil)) (nomark _)) (pe_one (pe_cmpR (op_eqD hr.units) (pe_revT (K := K) rfl (pe_call (ok_run_counts TX) (hr.mono (by decide)) (by rfl) TX.g_run_counts TX.f_run_counts.kp TX.bd_run_counts .nil pass0 (pa_cons (pv 3) pa_nil))) (pe_call (ok_writes TX) (hr.mono (by decide)) (by rfl) TX.g_writes TX.f_writes.kp TX.bd_writes .nil pass0 (pa_cons (pv 0) pa_nil)) (nomark _)))))))))), ?_⟩
    have hzm : t.mir.size = t.size := mir_size t
    refine ⟨.ref a, rfl, a, t, rfl, hA, hz, fun H1 o s1 ho => ?_⟩
    refine ⟨.ref c, rfl, c, _, rfl, Same.tup s1 hC, fun sw nsw => ?_⟩
    have s2 := same_upd (o := .tup (rs.map V.int).reverse) nsw
    refine ⟨.ref b, rfl, b, _, rfl, Same.tup (s1.trans s2) hB, fun tu ntu => ?_⟩
    have s3 := same_upd (o := .tup (ss.map V.int).reverse) ntu
    refine ⟨_, _, rfl, ?_⟩
    have s03 := (s1.trans s2).trans s3
    have s23 := s2.trans s3
    have hA3 := Same.tup s03 hA
    have hB3 := Same.tup s03 hB
    have hC3 := Same.tup s03 hC
    have ho3 := Same.tup s23 ho
    have hsw : SqT K (upd (upd H1 sw (.tup (rs.map V.int).reverse)) tu (.tup (ss.map V.int).reverse)) sw (rs.reverse.map V.int) := by
      rw [← ints_rev]; exact .inl (.inl (s3 _ _ upd_same))
    have htu : SqT K (upd (upd H1 sw (.tup (rs.map V.int).reverse)) tu (.tup (ss.map V.int).reverse)) tu (ss.reverse.map V.int) := by
      rw [← ints_rev]; exact .inl (.inl upd_same)
    generalize upd (upd H1 sw (.tup (rs.map V.int).reverse)) tu (.tup (ss.map V.int).reverse) = H3 at *
    have hdS : dot rs.reverse t.mir.wr = dot rs t.rc := by rw [mir_wr, dot_rev _ _ (by rw [T.rc_len]; omega)]
    have hdR : dot ss.reverse t.mir.rc = dot ss t.wr := by rw [mir_rc, dot_rev _ _ (by rw [T.wr_len]; omega)]
    have r1 : rs.reverse.length = t.mir.size := by rw [List.length_reverse]; omega
    have r2 : ss.reverse.length = t.mir.size := by rw [List.length_reverse]; omega
    have dS' := lds_rev dS
    have dR' := lds_rev dR
    refine ⟨.ref o, rfl, o, t.mir, rfl, ho3, by omega, fun H4 o4 s4 ho4 => ?_⟩
    rw [mir_mir] at ho4
    refine ⟨.ref a, rfl, ?_⟩
    rw [vi_ci] at ho4
    have hA4 := Same.tup s4 hA3
    refine ne_ints ho4 (by rw [← vi_ci]; exact hA4) ⟨_, rfl, iteF ?_⟩
    refine ⟨.ref o, rfl, .ref sw, rfl, .ref tu, rfl, o, sw, tu, t.mir, rs.reverse, ss.reverse, rfl, Same.tup s4 ho3, Same.tup s4 hsw, Same.tup s4 htu, r1, r2, by omega, dR', dS', fun H5 s5 => ?_⟩
    have s45 := s4.trans s5
    refine ⟨.ref a, rfl, .ref b, rfl, .ref c, rfl, a, b, c, t, ss, rs, rfl, Same.tup s45 hA3, Same.tup s45 hB3, Same.tup s45 hC3, l1, l2, by omega, dS, dR, fun H6 s6 => ?_⟩
    have s46 := s45.trans s6
    refine ⟨rfl, _, rfl, iteB0 (by rw [hdS, hdR, Int.add_comm]; simp) ?_⟩
    refine ⟨.ref o, rfl, .ref sw, rfl, o, sw, t.mir, rs.reverse, rfl, Same.tup s46 ho3, Same.tup s46 hsw, r1, by omega, dR', fun H7 s7 => ?_⟩
    have s47 := s46.trans s7
    refine ⟨.ref o, rfl, .ref tu, rfl, o, tu, t.mir, ss.reverse, rfl, Same.tup s47 ho3, Same.tup s47 htu, r2, by omega, dS', fun H8 s8 => ⟨sz60 (by simp), fun p1 np1 => ?_⟩⟩
    have z9 := same_upd (o := .lst [V.int (dot rs.reverse t.mir.wr), V.int (dot ss.reverse t.mir.rc)]) np1
    have s49 := (s47.trans s8).trans z9
    refine ⟨.ref a, rfl, .ref c, rfl, a, c, t, rs, rfl, Same.tup s49 hA3, Same.tup s49 hC3, l2, by omega, dR, fun H10 s10 => ?_⟩
    have s410 := s49.trans s10
    refine ⟨.ref a, rfl, .ref b, rfl, a, b, t, ss, rfl, Same.tup s410 hA3, Same.tup s410 hB3, l1, by omega, dS, fun H11 s11 => ⟨sz60 (by simp), fun p2 np2 => ?_⟩⟩
    have z12 := same_upd (o := .lst [V.int (dot rs t.rc), V.int (dot ss t.wr)]) np2
    have s912 := (s10.trans s11).trans z12
    have s412 := s49.trans s912
    refine ne_data (d := .list ([dot rs t.rc, dot ss t.wr].map PyData.int)) (k := 1) (.lst (.inl (.inl (s912 _ _ (by rw [← hdS, ← hdR]; exact upd_same)))) (dp_ints [dot rs t.rc, dot ss t.wr])) (.lst (.inl (.inl upd_same)) (dp_ints [dot rs t.rc, dot ss t.wr])) (Sh.lst (k := 0) (Sh.ints _)) (by decide) ⟨_, rfl, iteF ?_⟩
    refine ⟨.ref o, rfl, o, t.mir, rfl, Same.tup s412 ho3, by omega, fun H13 w1 s13 hw1 => ?_⟩
    refine ⟨w1, _, rfl, hw1, fun p3 np3 => ?_⟩
    have z14 := same_upd (o := .tup (vi t.mir.wr).reverse) np3
    have s414 := (s412.trans s13).trans z14
    refine ⟨.ref a, rfl, a, t, rfl, Same.tup s414 hA3, by omega, fun H15 w2 s15 hw2 => ?_⟩
    have e1 : (vi t.mir.wr).reverse = (ci t.rc).map V.int := by rw [vi_rev, mir_wr, List.reverse_reverse, vi_ci]
    have e2 : (vi t.mir.rc).reverse = (ci t.wr).map V.int := by rw [vi_rev, mir_rc, List.reverse_reverse, vi_ci]
    have s415 := s414.trans s15
    refine eq_data (d := .tuple ((ci t.rc).map PyData.int)) (k := 1) (dp_tup (by rw [← e1]; exact .inl (.inl (s15 _ _ upd_same)))) (dp_tup (by rw [← vi_ci]; exact hw2)) (Sh.tup (k := 0) (Sh.ints _)) (by decide) ⟨_, rfl, iteT ?_⟩
    refine ⟨.ref o, rfl, o, t.mir, rfl, Same.tup s415 ho3, by omega, fun H16 w3 s16 hw3 => ?_⟩
    refine ⟨w3, _, rfl, hw3, fun p4 np4 => ?_⟩
    have z17 := same_upd (o := .tup (vi t.mir.rc).reverse) np4
    have s417 := (s415.trans s16).trans z17
    refine ⟨.ref a, rfl, a, t, rfl, Same.tup s417 hA3, by omega, fun H18 w4 s18 hw4 => ?_⟩
    refine eq_data (d := .tuple ((ci t.wr).map PyData.int)) (k := 1) (dp_tup (by rw [← e2]; exact .inl (.inl (s18 _ _ upd_same)))) (dp_tup (by rw [← vi_ci]; exact hw4)) (Sh.tup (k := 0) (Sh.ints _)) (by decide) ?_
    exact q _ ((s03.trans s417).trans s18)
end
theorem lds_of {ns : List Int} {wd b : Int} (h : ∀ x, x ∈ ns → 0 ≤ x ∧ (x ≤ wd ∨ x ≤ 3)) (h1 : wd ≤ 1000000000) : Lds ns := fun x hx => by
  have := h x hx
  omega
section
variable {P : Program} {w : World} {K : PySem.W.Frag} {mg : Str → Option Value} {base : Heap}
def sp_L_right (K : PySem.W.Frag) : Sp := fun vs H Q _ => ∃ (a : Addr), vs = [.ref a] ∧ Pot H a 0 ∧ ∀ H', But a H H' → Q (.bl true) H'
theorem ok_L_right (TX : Tx K mg) : FnOk P w K mg base CX0 10 TX.a_L_right TX.fd_L_right ["_law_pot_here"] (sp_L_right K) := by
  refine TX.f_L_right.ok sc_L_right (fun vs H Q E h => ?_) (fun cdv A outer s H vs Q E hr h => ?_)
  · obtain ⟨a, rfl, _⟩ := h; rfl
  · obtain ⟨a, rfl, hp, q⟩ := h
    refine ⟨_, (pss_cons (ps_for PassesOwn.never rfl (pi_range1 (by rfl) TX.b_range (pa_cons pe_int pa_nil)) (pg_name (i := 1) sc_L_right.nd rfl (.inr rfl))
        (pss_cons (ps_asg (pe_tup (pa_cons (pe_call (ok_L_load TX) (hr.mono (by decide)) (by rfl) TX.g_L_load TX.f_L_load.kp TX.bd_L_load .nil pass0 (pa_cons (pv 0) (pa_cons (pv 1) (pa_cons pe_int pa_nil)))) (pa_cons (pe_call (ok_L_load TX) (hr.mono (by decide)) (by rfl) TX.g_L_load TX.f_L_load.kp TX.bd_L_load .nil pass0 (pa_cons (pv 0) (pa_cons (pv 1) (pa_cons (pe_op op_powW pe_int pe_int) pa_nil)))) pa_nil))) (pg_tup rfl (pgs_cons (pg_name (i := 2) sc_L_right.nd rfl (.inr rfl)) (pgs_cons (pg_name (i := 3) sc_L_right.nd rfl (.inr rfl)) pgs_nil))))
        (pss_cons (ps_set (i := 4) sc_L_right.nd rfl (.inl rfl) (pe_call (ok_L_plans TX) (hr.mono (by decide)) (by rfl) TX.g_L_plans TX.f_L_plans.kp TX.bd_L_plans .nil pass0 (pa_cons (pv 1) pa_nil)))
        (pss_cons (ps_if (pt_not (pt_val (pe_callB (id := "all") (cr_all rfl) (by rfl) TX.b_all (by decide +kernel) (pa_cons (pe_lc (own := [("_law_plan", 8)]) (by rfl) sc_L_right.nd (k_piL (K := K) rfl (pv 4)) (blkOk_by (own := [("_law_plan", 8)]) (N := N_L_right) (sc := defScope s_L_right) (by decide +kernel)) (fun _ _ _ _ _ => (pg_name (i := 8) sc_L_right.nd rfl (Or.inl rfl))) (fun _ _ _ _ _ => pts_nil) (fun _ _ _ _ _ => (pe_call (ok_L_one_right TX) (hr.mono (by decide)) (by rfl) TX.g_L_one_right TX.f_L_one_right.kp TX.bd_L_one_right .nil pass0 (pa_cons (pv 8) (pa_cons (pv 2) (pa_cons (pv 3) pa_nil)))))) pa_nil))))
          (pss_one (ps_ret pe_bl))
          pss_nil)
        (pss_cons (ps_asg (pe_tup (pa_cons (pe_call (ok_L_take TX) (hr.mono (by decide)) (by rfl) TX.g_L_take TX.f_L_take.kp TX.bd_L_take .nil pass0 (pa_cons (pv 0) (pa_cons pe_int pa_nil))) (pa_cons (pe_call (ok_L_take TX) (hr.mono (by decide)) (by rfl) TX.g_L_take TX.f_L_take.kp TX.bd_L_take .nil pass0 (pa_cons (pv 0) (pa_cons pe_int pa_nil))) pa_nil))) (pg_tup rfl (pgs_cons (pg_name (i := 5) sc_L_right.nd rfl (.inr rfl)) (pgs_cons (pg_name (i := 6) sc_L_right.nd rfl (.inr rfl)) pgs_nil))))
        (pss_cons (ps_setLc (i := 7) (own := [("_law_plan", 8)]) (by rfl) sc_L_right.nd rfl rfl (sw_true rfl rfl rfl (by decide +kernel)) (k_piL (K := K) rfl (pv 4)) (blkOk_by (own := [("_law_plan", 8)]) (N := N_L_right) (sc := defScope s_L_right) (by decide +kernel)) (fun _ _ _ _ _ => (pg_name (i := 8) sc_L_right.nd rfl (Or.inl rfl))) (fun _ _ _ _ _ => pts_nil) (fun _ _ _ _ _ => (pe_call (ok_L_within TX) (hr.mono (by decide)) (by rfl) TX.g_L_within TX.f_L_within.kp TX.bd_L_within .nil pass0 (pa_cons (pv 8) (pa_cons (pv 5) (pa_cons (pv 6) pa_nil))))))
        (pss_one (ps_if (pt_cmpR (op_neD hr.units) (pv 7) (pe_lc (own := [("_law_plan", 8)]) (by rfl) sc_L_right.nd (k_piL (K := K) rfl (pv 4)) (blkOk_by (own := [("_law_plan", 8)]) (N := N_L_right) (sc := defScope s_L_right) (by decide +kernel)) (fun _ _ _ _ _ => (pg_name (i := 8) sc_L_right.nd rfl (Or.inl rfl))) (fun _ _ _ _ _ => pts_nil) (fun _ _ _ _ _ => (pe_call (ok_L_within TX) (hr.mono (by decide)) (by rfl) TX.g_L_within TX.f_L_within.kp TX.bd_L_within .nil pass0 (pa_cons (pe_call (ok_mirror TX) (hr.mono (by decide)) (by rfl) TX.g_mirror TX.f_mirror.kp TX.bd_mirror .nil pass0 (pa_cons (pv 8) pa_nil)) (pa_cons (pv 6) (pa_cons (pv 5) pa_nil)))))) (nomark _))
          (pss_one (ps_ret pe_bl))
          pss_nil))))))))
      (pss_cons (ps_set (i := 1) sc_L_right.nd rfl (.inr rfl) (pe_op op_add pe_int (pe_call (ok_L_take TX) (hr.mono (by decide)) (by rfl) TX.g_L_take TX.f_L_take.kp TX.bd_L_take .nil pass0 (pa_cons (pv 0) (pa_cons pe_int pa_nil)))))
      (pss_cons (ps_asg (pe_tup (pa_cons (pe_call (ok_L_load TX) (hr.mono (by decide)) (by rfl) TX.g_L_load TX.f_L_load.kp TX.bd_L_load .nil pass0 (pa_cons (pv 0) (pa_cons (pv 1) (pa_cons (pe_op op_powW pe_int pe_int) pa_nil)))) (pa_cons (pe_call (ok_L_load TX) (hr.mono (by decide)) (by rfl) TX.g_L_load TX.f_L_load.kp TX.bd_L_load .nil pass0 (pa_cons (pv 0) (pa_cons (pv 1) (pa_cons (pe_op op_powW pe_int pe_int) pa_nil)))) pa_nil))) (pg_tup rfl (pgs_cons (pg_name (i := 2) sc_L_right.nd rfl (.inr rfl)) (pgs_cons (pg_name (i := 3) sc_L_right.nd rfl (.inr rfl)) pgs_nil))))
      (pss_one (ps_ret (pe_callB (id := "all") (cr_all rfl) (by rfl) TX.b_all (by decide +kernel) (pa_cons (pe_lc (own := [("_law_turn", 9)]) (by rfl) sc_L_right.nd (pi_range1 (by rfl) TX.b_range (pa_cons pe_int pa_nil)) (blkOk_by (own := [("_law_turn", 9)]) (N := N_L_right) (sc := defScope s_L_right) (by decide +kernel)) (fun _ _ _ _ _ => (pg_name (i := 9) sc_L_right.nd rfl (Or.inl rfl))) (fun _ _ _ _ _ => pts_nil) (fun _ _ _ _ _ => (pe_call (ok_L_one_right TX) (hr.mono (by decide)) (by rfl) TX.g_L_one_right TX.f_L_one_right.kp TX.bd_L_one_right .nil pass0 (pa_cons (pe_call (ok_L_drawn_plan TX) (hr.mono (by decide)) (by rfl) TX.g_L_drawn_plan TX.f_L_drawn_plan.kp TX.bd_L_drawn_plan .nil pass0 (pa_cons (pv 0) (pa_cons (pv 1) pa_nil))) (pa_cons (pv 2) (pa_cons (pv 3) pa_nil)))))) pa_nil))))))), ?_⟩
    refine ⟨_, rfl, by decide, by decide, for_range (lo := 0) (fun i σ H' => ∃ y1 y2 y3 y4 y5 y6 y7 y8 y9, σ = [some (.ref a), y1, y2, y3, y4, y5, y6, y7, y8, y9] ∧ But a H H' ∧ Pot H' a (1000 * (i : Int))) ⟨_, _, _, _, _, _, _, _, _, rfl, But.of (fun _ _ h => h), hp.mono (by decide)⟩ ?_ ?_⟩
    · rintro i σ H4 hi ⟨y1, y2, y3, y4, y5, y6, y7, y8, y9, rfl, b4, p4⟩
      have hi6 : i < 6 := hi
      have ei : (0 : Int) + ((i : Nat) : Int) = ((i : Nat) : Int) := by omega
      rw [ei]
      refine ⟨.ref a, rfl, _, rfl, a, i, 9, _, rfl, p4, by omega, by omega, by decide, by decide, fun H5 u1 ss b5 p5 l1 c1 h1 => ?_⟩
      refine ⟨.ref a, rfl, _, rfl, _, _, rfl, rfl, ⟨by decide, by decide +kernel⟩, a, i, _, _, rfl, p5, by omega, by omega, by decide, by decide, fun H6 u2 rs b6 p6 l2 c2 h2 => ?_⟩
      refine ⟨sz60 (by simp), fun o no => ?_⟩
      have s7 := same_upd (o := .tup [V.ref u1, V.ref u2]) no
      refine ⟨o, _, rfl, .inl (.inl upd_same), rfl, _, _, rfl, _, [], rfl, rfl, ?_⟩
      have k1 := Same.tup s7 ((p5.keep (K := K) b6) _ _ h1)
      have k2 := Same.tup s7 h2
      have p7 := p6.same s7
      have b07 : But a H (upd H6 o (.tup [V.ref u1, V.ref u2])) := ((b4.trans b5).trans b6).trans (But.of s7)
      generalize upd H6 o (.tup [V.ref u1, V.ref u2]) = H7 at k1 k2 p7 b07 ⊢
      have dS : Lds ss := lds_of (b := 0) c1 (by decide)
      have dR : Lds rs := lds_of (b := 0) c2 (by decide)
      refine ⟨_, rfl, i, rfl, by omega, fun H8 pl us ts s8 npl g1 g2 g3 g4 _ => ?_⟩
      have hul := DpAll.len g2
      rw [List.length_map] at hul
      refine ⟨.ref pl, rfl, pl, rfl, ⟨_, .inl (.inl g1)⟩, fun D nD => ?_⟩
      refine lc_all (K := K) (walk_list (xs := us)) ((List.replicate ts.length true).map PyData.bool) (by rw [List.length_map, List.length_replicate, hul]) (fun d h => by obtain ⟨b, _, rfl⟩ := List.mem_map.mp h; exact .bl b) (by omega) nD (fun H' s' => .inl (.inl (s' _ _ g1))) ?_ ?_ (fun x σ' H' Q Q' h => h _ _) (fun σ' H' Q Q' h => h _ _)
      · rintro j x Hx Hx' hj sx ⟨rfl, hx⟩ d hd R hR
        have hjt : j < ts.length := by omega
        rw [List.getElem?_map, List.getElem?_replicate, if_pos hjt] at hd
        cases hd
        obtain ⟨v, hv, hD⟩ := DpAll.get (DpAll.same sx g2) (i := j) (d := .tuple ((ci ts[j].sch).map PyData.int)) (by rw [List.getElem?_map, List.getElem?_eq_getElem hjt]; rfl)
        rw [hx] at hv
        cases hv
        have hts := g3 ts[j] (List.getElem_mem hjt)
        obtain ⟨b, rfl, hb⟩ := Dp.intsInv hD
        rw [← vi_ci] at hb
        have s7x := s8.trans sx
        exact ⟨rfl, rfl, .ref b, rfl, .ref u1, rfl, .ref u2, rfl, b, u1, u2, ts[j], ss, rs, rfl, hb, Same.tup s7x k1, Same.tup s7x k2, by omega, by omega, by omega, dS, dR, fun H9 s9 => hR _ _ s9 (.bl true)⟩
      · intro H9 acc s9 ha hA9
        rw [dpBoolsI hA9] at ha
        refine ⟨D, List.replicate ts.length true, rfl, .inl (.inl ha), true, by simp, iteF ?_⟩
        have s79 := s8.trans s9
        have p9 := p7.same s79
        refine ⟨.ref a, rfl, a, 4, _, rfl, p9, by omega, by decide, by decide, fun H10 rk b10 p10 rk0 rk1 => ?_⟩
        refine ⟨.ref a, rfl, a, 4, _, rfl, p10, by omega, by decide, by decide, fun H11 rc b11 p11 rc0 rc1 => ?_⟩
        obtain ⟨nk, rfl⟩ : ∃ n : Nat, rk = (n : Int) := ⟨rk.toNat, by omega⟩
        obtain ⟨nc, rfl⟩ : ∃ n : Nat, rc = (n : Int) := ⟨rc.toNat, by omega⟩
        refine ⟨sz60 (by simp), fun o2 no2 => ?_⟩
        have s12 := same_upd (o := .tup [V.int (nk : Int), V.int (nc : Int)]) no2
        refine ⟨o2, _, rfl, .inl (.inl upd_same), rfl, _, _, rfl, _, [], rfl, rfl, ?_⟩
        have hpl9 := s9 _ _ g1
        have npa : pl ≠ a := p7.ne npl
        have b912 : But a H9 (upd H11 o2 (.tup [V.int (nk : Int), V.int (nc : Int)])) := (b10.trans b11).trans (But.of s12)
        have g1' := b912 _ _ npa hpl9
        have kp := p9.keep (K := K) b912
        have g2' := DpAll.keep kp (fun d hd => by
          obtain ⟨t, _, rfl⟩ := List.mem_map.mp hd
          exact .tup (tf_ints _)) (DpAll.same s9 g2)
        have p12 := p11.same s12
        have b012 := (b07.trans (But.of s79)).trans b912
        generalize upd H11 o2 (.tup [V.int (nk : Int), V.int (nc : Int)]) = H12 at g1' g2' p12 b012 ⊢
        clear kp b912 g1 g2 k1 k2 b07 p7 p9 p10 p11 p6 p5
        have hpick : ∀ {Hx : Hp} {j : Nat} {x : V}, Same H12 Hx → j < us.length → us[j]? = some x → ∃ t o, ts[j]? = some t ∧ x = .ref o ∧ SqT K Hx o (vi t.sch) ∧ t.size = i := fun {Hx} {j} {x} sx hj hx => by
          have hjt : j < ts.length := by omega
          obtain ⟨v, hv, hD⟩ := DpAll.get (DpAll.same sx g2') (i := j) (d := .tuple ((ci ts[j].sch).map PyData.int)) (by rw [List.getElem?_map, List.getElem?_eq_getElem hjt]; rfl)
          rw [hx] at hv
          cases hv
          obtain ⟨b, rfl, hb⟩ := Dp.intsInv hD
          rw [← vi_ci] at hb
          exact ⟨ts[j], b, List.getElem?_eq_getElem hjt, rfl, hb, g3 ts[j] (List.getElem_mem hjt)⟩
        have tfb : ∀ (l : List Bool) d, d ∈ l.map PyData.bool → Tf d := fun l d h => by obtain ⟨b, _, rfl⟩ := List.mem_map.mp h; exact .bl b
        refine ⟨.ref pl, rfl, pl, rfl, ⟨_, .inl (.inl g1')⟩, fun D1 nD1 => ?_⟩
        refine lc_all (K := K) (walk_list (xs := us)) ((ts.map fun t => wi t nk nc).map PyData.bool) (by rw [List.length_map, List.length_map, hul]) (tfb _) (by omega) nD1 (fun H' s' => .inl (.inl (s' _ _ g1'))) ?_ ?_ (fun x σ' H' Q Q' h => h _ _) (fun σ' H' Q Q' h => h _ _)
        · rintro j x Hx Hx' hj sx ⟨rfl, hx⟩ d hd R hR
          obtain ⟨t, o, ht, rfl, ho, htz⟩ := hpick sx hj hx
          rw [List.getElem?_map, List.getElem?_map, ht] at hd
          cases hd
          exact ⟨rfl, rfl, .ref o, rfl, _, rfl, _, rfl, o, t, nk, nc, rfl, ho, by omega, fun H9 s9 => hR _ _ s9 (.bl _)⟩
        intro H13 acc1 s13 ha1 hA1
        refine ⟨.ref D1, rfl, .ref pl, rfl, pl, rfl, ⟨_, .inl (.inl (s13 _ _ g1'))⟩, fun D2 nD2 => ?_⟩
        refine lc_all (K := K) (walk_list (xs := us)) ((ts.map fun t => wi t nk nc).map PyData.bool) (by rw [List.length_map, List.length_map, hul]) (tfb _) (by omega) nD2 (fun H' s' => .inl (.inl (s' _ _ (s13 _ _ g1')))) ?_ ?_ (fun x σ' H' Q Q' h => h _ _) (fun σ' H' Q Q' h => h _ _)
        · rintro j x Hx Hx' hj sx ⟨rfl, hx⟩ d hd R hR
          obtain ⟨t, o, ht, rfl, ho, htz⟩ := hpick (s13.trans sx) hj hx
          rw [List.getElem?_map, List.getElem?_map, ht] at hd
          cases hd
          refine ⟨rfl, rfl, .ref o, rfl, o, t, rfl, ho, by omega, fun H8 m s8 hm => ?_⟩
          refine ⟨_, rfl, _, rfl, m, t.mir, nc, nk, rfl, hm, by rw [mir_size]; omega, fun H9 s9 => ?_⟩
          rw [wi_mir]
          exact hR _ _ (s8.trans s9) (.bl _)
        intro H14 acc2 s14 ha2 hA2
        refine ne_data (d := .list ((ts.map fun t => wi t nk nc).map PyData.bool)) (k := 1) (.lst (.inl (.inl (s14 _ _ ha1))) (DpAll.same s14 hA1)) (.lst (.inl (.inl ha2)) hA2) (Sh.lst (k := 0) fun d hd => ?_) (by decide) ⟨_, rfl, iteF ?_⟩
        · obtain ⟨b, _, rfl⟩ := List.mem_map.mp hd
          exact ⟨by simp [PyData.canLay0], by simp [PyData.depth]⟩
        exact ⟨_, _, _, _, _, _, _, _, _, rfl, b012.trans (But.of (s13.trans s14)), (p12.same (s13.trans s14)).mono (by omega)⟩
    · rintro σ H4 ⟨y1, y2, y3, y4, y5, y6, y7, y8, y9, rfl, b4, p4⟩
      have e6 : (((6 : Int).toNat : Nat) : Int) = 6 := by decide
      rw [e6] at p4
      refine ⟨.ref a, rfl, a, 55, _, rfl, p4, by decide, by decide, by decide, fun H5 r b5 p5 r0 r1 => ⟨_, _, rfl, rfl, ?_⟩⟩
      obtain ⟨n, rfl⟩ : ∃ n : Nat, r = (n : Int) := ⟨r.toNat, by omega⟩
      obtain ⟨k, hk⟩ : ∃ k : Nat, (6 : Int) + (n : Int) = (k : Int) := ⟨6 + n, by omega⟩
      have hk' : ((fun (i j : Int) => V.int (i + j)) 6 (n : Int)) = V.int (k : Int) := congrArg V.int hk
      rw [hk']
      refine ⟨.ref a, rfl, _, rfl, _, _, rfl, rfl, ⟨by decide, by decide +kernel⟩, a, k, _, _, rfl, p5, by decide, by omega, by decide, by decide, fun H6 u1 ss b6 p6 l1 c1 h1 => ?_⟩
      refine ⟨.ref a, rfl, _, rfl, _, _, rfl, rfl, ⟨by decide, by decide +kernel⟩, a, k, _, _, rfl, p6, by decide, by omega, by decide, by decide, fun H7 u2 rs b7 p7 l2 c2 h2 => ?_⟩
      refine ⟨sz60 (by simp), fun o no => ?_⟩
      have s7 := same_upd (o := .tup [V.ref u1, V.ref u2]) no
      refine ⟨o, _, rfl, .inl (.inl upd_same), rfl, _, _, rfl, _, [], rfl, rfl, ?_⟩
      have k1 := Same.tup s7 ((p6.keep (K := K) b7) _ _ h1)
      have k2 := Same.tup s7 h2
      have p8 := p7.same s7
      have b08 : But a H (upd H7 o (.tup [V.ref u1, V.ref u2])) := (((b4.trans b5).trans b6).trans b7).trans (But.of s7)
      generalize upd H7 o (.tup [V.ref u1, V.ref u2]) = H8 at k1 k2 p8 b08 ⊢
      have dS : Lds ss := lds_of (b := 0) c1 (by decide)
      have dR : Lds rs := lds_of (b := 0) c2 (by decide)
      refine ⟨_, rfl, by decide, by decide, fun D nD => ?_⟩
      have nDa : D ≠ a := p8.ne nD
      refine lc_it walk_range (fun i H' => But a H H' ∧ Pot H' a (100000 + 1000 * (i : Int)) ∧ SqT K H' u1 (ss.map V.int) ∧ SqT K H' u2 (rs.map V.int) ∧ H' D = some (.lst ((List.replicate i true).map V.bl))) ⟨b08.trans (But.of (same_upd nD)), (p8.same (same_upd nD)).mono (by decide), Same.tup (same_upd nD) k1, Same.tup (same_upd nD) k2, upd_same⟩ (fun _ _ _ _ => trivial) ?_ ?_
      · rintro i x Hx Hx' hi ⟨bx, px, x1, x2, xD⟩ hy
        obtain ⟨rfl, rfl⟩ := hy
        have hi3 : i < 3 := hi
        refine ⟨rfl, ?_⟩
        simp only [tYes, if_true]
        refine ⟨.ref a, rfl, _, rfl, a, k, _, rfl, px, by omega, by omega, fun H9 pl t b9 p9 ht hpl => ?_⟩
        have kp := px.keep (K := K) b9
        have j1 := kp _ _ x1
        have j2 := kp _ _ x2
        have jD := b9 _ _ nDa xD
        refine ⟨.ref u1, rfl, .ref u2, rfl, pl, u1, u2, t, ss, rs, rfl, hpl, j1, j2, by omega, by omega, by omega, dS, dR, fun H10 s10 => ?_⟩
        have bu : But D H10 (upd H10 D (.lst ((List.replicate i true).map V.bl ++ [V.bl true]))) := But.upd
        have kD := But.keep (K := K) bu (s10 _ _ jD)
        have nDH : H D = none := by
          cases e : H D with
          | none => rfl
          | some o => rw [b08 _ _ nDa e] at nD; cases nD
        refine ⟨_, s10 _ _ jD, sz61 (by simp; omega), But.mut ((bx.trans b9).trans (But.of s10)) nDH, ((p9.same s10).upd nDa).mono (by omega), kD _ _ (Same.tup s10 j1), kD _ _ (Same.tup s10 j2), ?_⟩
        rw [upd_same, List.replicate_succ', List.map_append]
        rfl
      · rintro H9 ⟨b9, p9, x1, x2, xD⟩
        refine ⟨D, List.replicate 3 true, rfl, .inl (.inl xD), ?_⟩
        exact q _ b9
end
section
variable {P : Program} {w : World} {K : PySem.W.Frag} {mg : Str → Option Value} {base : Heap}
def sp_law (K : PySem.W.Frag) : Sp := fun vs H Q _ => ∃ (a : Addr) (ns : List Int), vs = [.ref a] ∧ SqL K H a (ns.map V.int) ∧ ns.length ≤ 63 ∧ ∀ H', Q (.bl true) H'
theorem ok_law (TX : Tx K mg) : FnOk P w K mg base CX0 11 TX.a_law TX.fd_law ["_law_script"] (sp_law K) := by
  refine TX.f_law.ok sc_law (fun vs H Q E h => ?_) (fun cdv A outer s H vs Q E hr h => ?_)
  · obtain ⟨a, ns, rfl, _⟩ := h; rfl
  · obtain ⟨a, ns, rfl, hS, hlen, q⟩ := h
    refine ⟨_, (pss_one (ps_ret (pe_callB (id := "all") (cr_all rfl) (by rfl) TX.b_all (by decide +kernel) (pa_cons (pe_lc (own := [("_law_k", 1)]) (by rfl) sc_law.nd (pi_range1 (by rfl) TX.b_range (pa_cons (pe_op op_add pe_int (pe_callB (id := "min") (call_min2 rfl) (by rfl) TX.b_min (by decide +kernel) (pa_cons pe_int (pa_cons (pe_callB (id := "len") (k_len (K := K) rfl) (by rfl) TX.b_len (by decide +kernel) (pa_cons (pv 0) pa_nil)) pa_nil)))) pa_nil)) (blkOk_by (own := [("_law_k", 1)]) (N := N_law) (sc := defScope s_law) (by decide +kernel)) (fun _ _ _ _ _ => (pg_name (i := 1) sc_law.nd rfl (Or.inl rfl))) (fun _ _ _ _ _ => pts_nil) (fun _ _ _ _ _ => (pe_call (ok_L_right TX) (hr.mono (by decide)) (by rfl) TX.g_L_right TX.f_L_right.kp TX.bd_L_right .nil pass0 (pa_cons (pe_call (ok_L_pot TX) (hr.mono (by decide)) (by rfl) TX.g_L_pot TX.f_L_pot.kp TX.bd_L_pot .nil pass0 (pa_cons (pv 0) (pa_cons (pv 1) pa_nil))) pa_nil)))) pa_nil)))), ?_⟩
    refine ⟨.ref a, rfl, a, _, rfl, .inl hS, _, _, rfl, _, _, rfl, rfl, ?_⟩
    obtain ⟨m, hm⟩ : ∃ m : Nat, m = (1 + (if ((ns.map V.int).length : Int) < 3 then ((ns.map V.int).length : Int) else 3)).toNat := ⟨_, rfl⟩
    have hm2 : m ≤ 4 := by rw [hm]; split <;> omega
    refine ⟨_, rfl, by split <;> omega, by split <;> omega, fun D nD => ?_⟩
    refine lc_all (K := K) walk_range ((List.replicate m true).map PyData.bool) (by rw [List.length_map, List.length_replicate, hm]) (fun d h => by obtain ⟨b, _, rfl⟩ := List.mem_map.mp h; exact .bl b) (by split <;> omega) nD (fun _ _ => trivial) ?_ ?_ (fun x σ' H' Q Q' h => h _ _) (fun σ' H' Q Q' h => h _ _)
    · rintro i x Hx Hx' hi sx hy d hd R hR
      obtain ⟨rfl, rfl⟩ := hy
      have hi2 : i < m := by rw [hm]; exact hi
      have ei : (0 : Int) + ((i : Nat) : Int) = ((i : Nat) : Int) := by omega
      dsimp only
      rw [ei]
      rw [List.getElem?_map, List.getElem?_replicate, if_pos hi2] at hd
      cases hd
      refine ⟨rfl, rfl, .ref a, rfl, _, rfl, a, ns, i, rfl, sx.seq hS, by omega, fun H2 p s2 np pp => ?_⟩
      exact ⟨p, rfl, pp, fun H3 b3 => hR _ _ (But.same s2 b3 np) (.bl true)⟩
    · intro H2 acc s2 ha hA
      rw [dpBoolsI hA] at ha
      refine ⟨D, List.replicate m true, rfl, .inl (.inl ha), ?_⟩
      rw [show (List.replicate m true).all id = true by simp]
      exact q _
end
theorem all_mk {l : PySem.W.OpenLaw} {w : World} {K : PySem.W.Frag} {h : Heap} {mg : Str → Option Value} {fa : Addr} (X : K.In h) (G : h.Ns mainGlobals mg) (hfa : mg "law" = some (.ref fa))
    {f_is_int : Addr} {od_is_int an_is_int : Option Addr} {sl_is_int : Array (Option Value)} {oc_is_int kV_is_int dc_is_int pm_is_int cd_is_int ct_is_int : Value}
    (a_is_int : PySem.W.nsIn K mainGlobals "is_int" = some (some (.ref f_is_int))) (l_is_int : K.lookup f_is_int = some ⟨oc_is_int, od_is_int, .func (PySem.W.fnOf "is_int" "is_int" (defArgs s_is_int) (defBody s_is_int) (defScope s_is_int) .none kV_is_int dc_is_int pm_is_int an_is_int cd_is_int ct_is_int), sl_is_int⟩) (c_is_int : PySem.W.codeIn K cd_is_int "is_int" = true) (k_is_int : PySem.W.keepIn K (.ref f_is_int) = true)
    {f_is_count : Addr} {od_is_count an_is_count : Option Addr} {sl_is_count : Array (Option Value)} {oc_is_count kV_is_count dc_is_count pm_is_count cd_is_count ct_is_count : Value}
    (a_is_count : PySem.W.nsIn K mainGlobals "is_count" = some (some (.ref f_is_count))) (l_is_count : K.lookup f_is_count = some ⟨oc_is_count, od_is_count, .func (PySem.W.fnOf "is_count" "is_count" (defArgs s_is_count) (defBody s_is_count) (defScope s_is_count) .none kV_is_count dc_is_count pm_is_count an_is_count cd_is_count ct_is_count), sl_is_count⟩) (c_is_count : PySem.W.codeIn K cd_is_count "is_count" = true) (k_is_count : PySem.W.keepIn K (.ref f_is_count) = true)
    {f_is_count_up_to : Addr} {od_is_count_up_to an_is_count_up_to : Option Addr} {sl_is_count_up_to : Array (Option Value)} {oc_is_count_up_to kV_is_count_up_to dc_is_count_up_to pm_is_count_up_to cd_is_count_up_to ct_is_count_up_to : Value}
    (a_is_count_up_to : PySem.W.nsIn K mainGlobals "is_count_up_to" = some (some (.ref f_is_count_up_to))) (l_is_count_up_to : K.lookup f_is_count_up_to = some ⟨oc_is_count_up_to, od_is_count_up_to, .func (PySem.W.fnOf "is_count_up_to" "is_count_up_to" (defArgs s_is_count_up_to) (defBody s_is_count_up_to) (defScope s_is_count_up_to) .none kV_is_count_up_to dc_is_count_up_to pm_is_count_up_to an_is_count_up_to cd_is_count_up_to ct_is_count_up_to), sl_is_count_up_to⟩) (c_is_count_up_to : PySem.W.codeIn K cd_is_count_up_to "is_count_up_to" = true) (k_is_count_up_to : PySem.W.keepIn K (.ref f_is_count_up_to) = true)
    {f_are_loads : Addr} {od_are_loads an_are_loads : Option Addr} {sl_are_loads : Array (Option Value)} {oc_are_loads kV_are_loads dc_are_loads pm_are_loads cd_are_loads ct_are_loads : Value}
    (a_are_loads : PySem.W.nsIn K mainGlobals "are_loads" = some (some (.ref f_are_loads))) (l_are_loads : K.lookup f_are_loads = some ⟨oc_are_loads, od_are_loads, .func (PySem.W.fnOf "are_loads" "are_loads" (defArgs s_are_loads) (defBody s_are_loads) (defScope s_are_loads) .none kV_are_loads dc_are_loads pm_are_loads an_are_loads cd_are_loads ct_are_loads), sl_are_loads⟩) (c_are_loads : PySem.W.codeIn K cd_are_loads "are_loads" = true) (k_are_loads : PySem.W.keepIn K (.ref f_are_loads) = true)
    {f_check_sizes : Addr} {od_check_sizes an_check_sizes : Option Addr} {sl_check_sizes : Array (Option Value)} {oc_check_sizes kV_check_sizes dc_check_sizes pm_check_sizes cd_check_sizes ct_check_sizes : Value}
    (a_check_sizes : PySem.W.nsIn K mainGlobals "check_sizes" = some (some (.ref f_check_sizes))) (l_check_sizes : K.lookup f_check_sizes = some ⟨oc_check_sizes, od_check_sizes, .func (PySem.W.fnOf "check_sizes" "check_sizes" (defArgs s_check_sizes) (defBody s_check_sizes) (defScope s_check_sizes) .none kV_check_sizes dc_check_sizes pm_check_sizes an_check_sizes cd_check_sizes ct_check_sizes), sl_check_sizes⟩) (c_check_sizes : PySem.W.codeIn K cd_check_sizes "check_sizes" = true) (k_check_sizes : PySem.W.keepIn K (.ref f_check_sizes) = true)
    {f_check_reads : Addr} {od_check_reads an_check_reads : Option Addr} {sl_check_reads : Array (Option Value)} {oc_check_reads kV_check_reads dc_check_reads pm_check_reads cd_check_reads ct_check_reads : Value}
    (a_check_reads : PySem.W.nsIn K mainGlobals "check_reads" = some (some (.ref f_check_reads))) (l_check_reads : K.lookup f_check_reads = some ⟨oc_check_reads, od_check_reads, .func (PySem.W.fnOf "check_reads" "check_reads" (defArgs s_check_reads) (defBody s_check_reads) (defScope s_check_reads) .none kV_check_reads dc_check_reads pm_check_reads an_check_reads cd_check_reads ct_check_reads), sl_check_reads⟩) (c_check_reads : PySem.W.codeIn K cd_check_reads "check_reads" = true) (k_check_reads : PySem.W.keepIn K (.ref f_check_reads) = true)
    {f_is_schedule : Addr} {od_is_schedule an_is_schedule : Option Addr} {sl_is_schedule : Array (Option Value)} {oc_is_schedule kV_is_schedule dc_is_schedule pm_is_schedule cd_is_schedule ct_is_schedule : Value}
    (a_is_schedule : PySem.W.nsIn K mainGlobals "is_schedule" = some (some (.ref f_is_schedule))) (l_is_schedule : K.lookup f_is_schedule = some ⟨oc_is_schedule, od_is_schedule, .func (PySem.W.fnOf "is_schedule" "is_schedule" (defArgs s_is_schedule) (defBody s_is_schedule) (defScope s_is_schedule) .none kV_is_schedule dc_is_schedule pm_is_schedule an_is_schedule cd_is_schedule ct_is_schedule), sl_is_schedule⟩) (c_is_schedule : PySem.W.codeIn K cd_is_schedule "is_schedule" = true) (k_is_schedule : PySem.W.keepIn K (.ref f_is_schedule) = true)
    {f_stacks : Addr} {od_stacks an_stacks : Option Addr} {sl_stacks : Array (Option Value)} {oc_stacks kV_stacks dc_stacks pm_stacks cd_stacks ct_stacks : Value}
    (a_stacks : PySem.W.nsIn K mainGlobals "stacks" = some (some (.ref f_stacks))) (l_stacks : K.lookup f_stacks = some ⟨oc_stacks, od_stacks, .func (PySem.W.fnOf "stacks" "stacks" (defArgs s_stacks) (defBody s_stacks) (defScope s_stacks) .none kV_stacks dc_stacks pm_stacks an_stacks cd_stacks ct_stacks), sl_stacks⟩) (c_stacks : PySem.W.codeIn K cd_stacks "stacks" = true) (k_stacks : PySem.W.keepIn K (.ref f_stacks) = true)
    {f_stack_after : Addr} {od_stack_after an_stack_after : Option Addr} {sl_stack_after : Array (Option Value)} {oc_stack_after kV_stack_after dc_stack_after pm_stack_after cd_stack_after ct_stack_after : Value}
    (a_stack_after : PySem.W.nsIn K mainGlobals "stack_after" = some (some (.ref f_stack_after))) (l_stack_after : K.lookup f_stack_after = some ⟨oc_stack_after, od_stack_after, .func (PySem.W.fnOf "stack_after" "stack_after" (defArgs s_stack_after) (defBody s_stack_after) (defScope s_stack_after) .none kV_stack_after dc_stack_after pm_stack_after an_stack_after cd_stack_after ct_stack_after), sl_stack_after⟩) (c_stack_after : PySem.W.codeIn K cd_stack_after "stack_after" = true) (k_stack_after : PySem.W.keepIn K (.ref f_stack_after) = true)
    {f_writes : Addr} {od_writes an_writes : Option Addr} {sl_writes : Array (Option Value)} {oc_writes kV_writes dc_writes pm_writes cd_writes ct_writes : Value}
    (a_writes : PySem.W.nsIn K mainGlobals "writes" = some (some (.ref f_writes))) (l_writes : K.lookup f_writes = some ⟨oc_writes, od_writes, .func (PySem.W.fnOf "writes" "writes" (defArgs s_writes) (defBody s_writes) (defScope s_writes) .none kV_writes dc_writes pm_writes an_writes cd_writes ct_writes), sl_writes⟩) (c_writes : PySem.W.codeIn K cd_writes "writes" = true) (k_writes : PySem.W.keepIn K (.ref f_writes) = true)
    {f_run_counts : Addr} {od_run_counts an_run_counts : Option Addr} {sl_run_counts : Array (Option Value)} {oc_run_counts kV_run_counts dc_run_counts pm_run_counts cd_run_counts ct_run_counts : Value}
    (a_run_counts : PySem.W.nsIn K mainGlobals "run_counts" = some (some (.ref f_run_counts))) (l_run_counts : K.lookup f_run_counts = some ⟨oc_run_counts, od_run_counts, .func (PySem.W.fnOf "run_counts" "run_counts" (defArgs s_run_counts) (defBody s_run_counts) (defScope s_run_counts) .none kV_run_counts dc_run_counts pm_run_counts an_run_counts cd_run_counts ct_run_counts), sl_run_counts⟩) (c_run_counts : PySem.W.codeIn K cd_run_counts "run_counts" = true) (k_run_counts : PySem.W.keepIn K (.ref f_run_counts) = true)
    {f_write_work : Addr} {od_write_work an_write_work : Option Addr} {sl_write_work : Array (Option Value)} {oc_write_work kV_write_work dc_write_work pm_write_work cd_write_work ct_write_work : Value}
    (a_write_work : PySem.W.nsIn K mainGlobals "write_work" = some (some (.ref f_write_work))) (l_write_work : K.lookup f_write_work = some ⟨oc_write_work, od_write_work, .func (PySem.W.fnOf "write_work" "write_work" (defArgs s_write_work) (defBody s_write_work) (defScope s_write_work) .none kV_write_work dc_write_work pm_write_work an_write_work cd_write_work ct_write_work), sl_write_work⟩) (c_write_work : PySem.W.codeIn K cd_write_work "write_work" = true) (k_write_work : PySem.W.keepIn K (.ref f_write_work) = true)
    {f_weighted : Addr} {od_weighted an_weighted : Option Addr} {sl_weighted : Array (Option Value)} {oc_weighted kV_weighted dc_weighted pm_weighted cd_weighted ct_weighted : Value}
    (a_weighted : PySem.W.nsIn K mainGlobals "weighted" = some (some (.ref f_weighted))) (l_weighted : K.lookup f_weighted = some ⟨oc_weighted, od_weighted, .func (PySem.W.fnOf "weighted" "weighted" (defArgs s_weighted) (defBody s_weighted) (defScope s_weighted) .none kV_weighted dc_weighted pm_weighted an_weighted cd_weighted ct_weighted), sl_weighted⟩) (c_weighted : PySem.W.codeIn K cd_weighted "weighted" = true) (k_weighted : PySem.W.keepIn K (.ref f_weighted) = true)
    {f_read_work : Addr} {od_read_work an_read_work : Option Addr} {sl_read_work : Array (Option Value)} {oc_read_work kV_read_work dc_read_work pm_read_work cd_read_work ct_read_work : Value}
    (a_read_work : PySem.W.nsIn K mainGlobals "read_work" = some (some (.ref f_read_work))) (l_read_work : K.lookup f_read_work = some ⟨oc_read_work, od_read_work, .func (PySem.W.fnOf "read_work" "read_work" (defArgs s_read_work) (defBody s_read_work) (defScope s_read_work) .none kV_read_work dc_read_work pm_read_work an_read_work cd_read_work ct_read_work), sl_read_work⟩) (c_read_work : PySem.W.codeIn K cd_read_work "read_work" = true) (k_read_work : PySem.W.keepIn K (.ref f_read_work) = true)
    {f_work : Addr} {od_work an_work : Option Addr} {sl_work : Array (Option Value)} {oc_work kV_work dc_work pm_work cd_work ct_work : Value}
    (a_work : PySem.W.nsIn K mainGlobals "work" = some (some (.ref f_work))) (l_work : K.lookup f_work = some ⟨oc_work, od_work, .func (PySem.W.fnOf "work" "work" (defArgs s_work) (defBody s_work) (defScope s_work) .none kV_work dc_work pm_work an_work cd_work ct_work), sl_work⟩) (c_work : PySem.W.codeIn K cd_work "work" = true) (k_work : PySem.W.keepIn K (.ref f_work) = true)
    {f_is_tree : Addr} {od_is_tree an_is_tree : Option Addr} {sl_is_tree : Array (Option Value)} {oc_is_tree kV_is_tree dc_is_tree pm_is_tree cd_is_tree ct_is_tree : Value}
    (a_is_tree : PySem.W.nsIn K mainGlobals "is_tree" = some (some (.ref f_is_tree))) (l_is_tree : K.lookup f_is_tree = some ⟨oc_is_tree, od_is_tree, .func (PySem.W.fnOf "is_tree" "is_tree" (defArgs s_is_tree) (defBody s_is_tree) (defScope s_is_tree) .none kV_is_tree dc_is_tree pm_is_tree an_is_tree cd_is_tree ct_is_tree), sl_is_tree⟩) (c_is_tree : PySem.W.codeIn K cd_is_tree "is_tree" = true) (k_is_tree : PySem.W.keepIn K (.ref f_is_tree) = true)
    {f_is_numbered_in_order : Addr} {od_is_numbered_in_order an_is_numbered_in_order : Option Addr} {sl_is_numbered_in_order : Array (Option Value)} {oc_is_numbered_in_order kV_is_numbered_in_order dc_is_numbered_in_order pm_is_numbered_in_order cd_is_numbered_in_order ct_is_numbered_in_order : Value}
    (a_is_numbered_in_order : PySem.W.nsIn K mainGlobals "is_numbered_in_order" = some (some (.ref f_is_numbered_in_order))) (l_is_numbered_in_order : K.lookup f_is_numbered_in_order = some ⟨oc_is_numbered_in_order, od_is_numbered_in_order, .func (PySem.W.fnOf "is_numbered_in_order" "is_numbered_in_order" (defArgs s_is_numbered_in_order) (defBody s_is_numbered_in_order) (defScope s_is_numbered_in_order) .none kV_is_numbered_in_order dc_is_numbered_in_order pm_is_numbered_in_order an_is_numbered_in_order cd_is_numbered_in_order ct_is_numbered_in_order), sl_is_numbered_in_order⟩) (c_is_numbered_in_order : PySem.W.codeIn K cd_is_numbered_in_order "is_numbered_in_order" = true) (k_is_numbered_in_order : PySem.W.keepIn K (.ref f_is_numbered_in_order) = true)
    {f_tree_of : Addr} {od_tree_of an_tree_of : Option Addr} {sl_tree_of : Array (Option Value)} {oc_tree_of kV_tree_of dc_tree_of pm_tree_of cd_tree_of ct_tree_of : Value}
    (a_tree_of : PySem.W.nsIn K mainGlobals "tree_of" = some (some (.ref f_tree_of))) (l_tree_of : K.lookup f_tree_of = some ⟨oc_tree_of, od_tree_of, .func (PySem.W.fnOf "tree_of" "tree_of" (defArgs s_tree_of) (defBody s_tree_of) (defScope s_tree_of) .none kV_tree_of dc_tree_of pm_tree_of an_tree_of cd_tree_of ct_tree_of), sl_tree_of⟩) (c_tree_of : PySem.W.codeIn K cd_tree_of "tree_of" = true) (k_tree_of : PySem.W.keepIn K (.ref f_tree_of) = true)
    {f_schedule_of : Addr} {od_schedule_of an_schedule_of : Option Addr} {sl_schedule_of : Array (Option Value)} {oc_schedule_of kV_schedule_of dc_schedule_of pm_schedule_of cd_schedule_of ct_schedule_of : Value}
    (a_schedule_of : PySem.W.nsIn K mainGlobals "schedule_of" = some (some (.ref f_schedule_of))) (l_schedule_of : K.lookup f_schedule_of = some ⟨oc_schedule_of, od_schedule_of, .func (PySem.W.fnOf "schedule_of" "schedule_of" (defArgs s_schedule_of) (defBody s_schedule_of) (defScope s_schedule_of) .none kV_schedule_of dc_schedule_of pm_schedule_of an_schedule_of cd_schedule_of ct_schedule_of), sl_schedule_of⟩) (c_schedule_of : PySem.W.codeIn K cd_schedule_of "schedule_of" = true) (k_schedule_of : PySem.W.keepIn K (.ref f_schedule_of) = true)
    {f_edges : Addr} {od_edges an_edges : Option Addr} {sl_edges : Array (Option Value)} {oc_edges kV_edges dc_edges pm_edges cd_edges ct_edges : Value}
    (a_edges : PySem.W.nsIn K mainGlobals "edges" = some (some (.ref f_edges))) (l_edges : K.lookup f_edges = some ⟨oc_edges, od_edges, .func (PySem.W.fnOf "edges" "edges" (defArgs s_edges) (defBody s_edges) (defScope s_edges) .none kV_edges dc_edges pm_edges an_edges cd_edges ct_edges), sl_edges⟩) (c_edges : PySem.W.codeIn K cd_edges "edges" = true) (k_edges : PySem.W.keepIn K (.ref f_edges) = true)
    {f_edges_above : Addr} {od_edges_above an_edges_above : Option Addr} {sl_edges_above : Array (Option Value)} {oc_edges_above kV_edges_above dc_edges_above pm_edges_above cd_edges_above ct_edges_above : Value}
    (a_edges_above : PySem.W.nsIn K mainGlobals "edges_above" = some (some (.ref f_edges_above))) (l_edges_above : K.lookup f_edges_above = some ⟨oc_edges_above, od_edges_above, .func (PySem.W.fnOf "edges_above" "edges_above" (defArgs s_edges_above) (defBody s_edges_above) (defScope s_edges_above) .none kV_edges_above dc_edges_above pm_edges_above an_edges_above cd_edges_above ct_edges_above), sl_edges_above⟩) (c_edges_above : PySem.W.codeIn K cd_edges_above "edges_above" = true) (k_edges_above : PySem.W.keepIn K (.ref f_edges_above) = true)
    {f_mirror : Addr} {od_mirror an_mirror : Option Addr} {sl_mirror : Array (Option Value)} {oc_mirror kV_mirror dc_mirror pm_mirror cd_mirror ct_mirror : Value}
    (a_mirror : PySem.W.nsIn K mainGlobals "mirror" = some (some (.ref f_mirror))) (l_mirror : K.lookup f_mirror = some ⟨oc_mirror, od_mirror, .func (PySem.W.fnOf "mirror" "mirror" (defArgs s_mirror) (defBody s_mirror) (defScope s_mirror) .none kV_mirror dc_mirror pm_mirror an_mirror cd_mirror ct_mirror), sl_mirror⟩) (c_mirror : PySem.W.codeIn K cd_mirror "mirror" = true) (k_mirror : PySem.W.keepIn K (.ref f_mirror) = true)
    {f_mirrored_node : Addr} {od_mirrored_node an_mirrored_node : Option Addr} {sl_mirrored_node : Array (Option Value)} {oc_mirrored_node kV_mirrored_node dc_mirrored_node pm_mirrored_node cd_mirrored_node ct_mirrored_node : Value}
    (a_mirrored_node : PySem.W.nsIn K mainGlobals "mirrored_node" = some (some (.ref f_mirrored_node))) (l_mirrored_node : K.lookup f_mirrored_node = some ⟨oc_mirrored_node, od_mirrored_node, .func (PySem.W.fnOf "mirrored_node" "mirrored_node" (defArgs s_mirrored_node) (defBody s_mirrored_node) (defScope s_mirrored_node) .none kV_mirrored_node dc_mirrored_node pm_mirrored_node an_mirrored_node cd_mirrored_node ct_mirrored_node), sl_mirrored_node⟩) (c_mirrored_node : PySem.W.codeIn K cd_mirrored_node "mirrored_node" = true) (k_mirrored_node : PySem.W.keepIn K (.ref f_mirrored_node) = true)
    {f_L_pot : Addr} {od_L_pot an_L_pot : Option Addr} {sl_L_pot : Array (Option Value)} {oc_L_pot kV_L_pot dc_L_pot pm_L_pot cd_L_pot ct_L_pot : Value}
    (a_L_pot : PySem.W.nsIn K mainGlobals "_law_pot" = some (some (.ref f_L_pot))) (l_L_pot : K.lookup f_L_pot = some ⟨oc_L_pot, od_L_pot, .func (PySem.W.fnOf "_law_pot" "_law_pot" (defArgs s_L_pot) (defBody s_L_pot) (defScope s_L_pot) .none kV_L_pot dc_L_pot pm_L_pot an_L_pot cd_L_pot ct_L_pot), sl_L_pot⟩) (c_L_pot : PySem.W.codeIn K cd_L_pot "_law_pot" = true) (k_L_pot : PySem.W.keepIn K (.ref f_L_pot) = true)
    {f_L_take : Addr} {od_L_take an_L_take : Option Addr} {sl_L_take : Array (Option Value)} {oc_L_take kV_L_take dc_L_take pm_L_take cd_L_take ct_L_take : Value}
    (a_L_take : PySem.W.nsIn K mainGlobals "_law_take" = some (some (.ref f_L_take))) (l_L_take : K.lookup f_L_take = some ⟨oc_L_take, od_L_take, .func (PySem.W.fnOf "_law_take" "_law_take" (defArgs s_L_take) (defBody s_L_take) (defScope s_L_take) .none kV_L_take dc_L_take pm_L_take an_L_take cd_L_take ct_L_take), sl_L_take⟩) (c_L_take : PySem.W.codeIn K cd_L_take "_law_take" = true) (k_L_take : PySem.W.keepIn K (.ref f_L_take) = true)
    {f_L_of : Addr} {od_L_of an_L_of : Option Addr} {sl_L_of : Array (Option Value)} {oc_L_of kV_L_of dc_L_of pm_L_of cd_L_of ct_L_of : Value}
    (a_L_of : PySem.W.nsIn K mainGlobals "_law_of" = some (some (.ref f_L_of))) (l_L_of : K.lookup f_L_of = some ⟨oc_L_of, od_L_of, .func (PySem.W.fnOf "_law_of" "_law_of" (defArgs s_L_of) (defBody s_L_of) (defScope s_L_of) .none kV_L_of dc_L_of pm_L_of an_L_of cd_L_of ct_L_of), sl_L_of⟩) (c_L_of : PySem.W.codeIn K cd_L_of "_law_of" = true) (k_L_of : PySem.W.keepIn K (.ref f_L_of) = true)
    {f_L_plans : Addr} {od_L_plans an_L_plans : Option Addr} {sl_L_plans : Array (Option Value)} {oc_L_plans kV_L_plans dc_L_plans pm_L_plans cd_L_plans ct_L_plans : Value}
    (a_L_plans : PySem.W.nsIn K mainGlobals "_law_plans" = some (some (.ref f_L_plans))) (l_L_plans : K.lookup f_L_plans = some ⟨oc_L_plans, od_L_plans, .func (PySem.W.fnOf "_law_plans" "_law_plans" (defArgs s_L_plans) (defBody s_L_plans) (defScope s_L_plans) .none kV_L_plans dc_L_plans pm_L_plans an_L_plans cd_L_plans ct_L_plans), sl_L_plans⟩) (c_L_plans : PySem.W.codeIn K cd_L_plans "_law_plans" = true) (k_L_plans : PySem.W.keepIn K (.ref f_L_plans) = true)
    {f_L_drawn_plan : Addr} {od_L_drawn_plan an_L_drawn_plan : Option Addr} {sl_L_drawn_plan : Array (Option Value)} {oc_L_drawn_plan kV_L_drawn_plan dc_L_drawn_plan pm_L_drawn_plan cd_L_drawn_plan ct_L_drawn_plan : Value}
    (a_L_drawn_plan : PySem.W.nsIn K mainGlobals "_law_drawn_plan" = some (some (.ref f_L_drawn_plan))) (l_L_drawn_plan : K.lookup f_L_drawn_plan = some ⟨oc_L_drawn_plan, od_L_drawn_plan, .func (PySem.W.fnOf "_law_drawn_plan" "_law_drawn_plan" (defArgs s_L_drawn_plan) (defBody s_L_drawn_plan) (defScope s_L_drawn_plan) .none kV_L_drawn_plan dc_L_drawn_plan pm_L_drawn_plan an_L_drawn_plan cd_L_drawn_plan ct_L_drawn_plan), sl_L_drawn_plan⟩) (c_L_drawn_plan : PySem.W.codeIn K cd_L_drawn_plan "_law_drawn_plan" = true) (k_L_drawn_plan : PySem.W.keepIn K (.ref f_L_drawn_plan) = true)
    {f_L_counted : Addr} {od_L_counted an_L_counted : Option Addr} {sl_L_counted : Array (Option Value)} {oc_L_counted kV_L_counted dc_L_counted pm_L_counted cd_L_counted ct_L_counted : Value}
    (a_L_counted : PySem.W.nsIn K mainGlobals "_law_counted" = some (some (.ref f_L_counted))) (l_L_counted : K.lookup f_L_counted = some ⟨oc_L_counted, od_L_counted, .func (PySem.W.fnOf "_law_counted" "_law_counted" (defArgs s_L_counted) (defBody s_L_counted) (defScope s_L_counted) .none kV_L_counted dc_L_counted pm_L_counted an_L_counted cd_L_counted ct_L_counted), sl_L_counted⟩) (c_L_counted : PySem.W.codeIn K cd_L_counted "_law_counted" = true) (k_L_counted : PySem.W.keepIn K (.ref f_L_counted) = true)
    {f_L_load : Addr} {od_L_load an_L_load : Option Addr} {sl_L_load : Array (Option Value)} {oc_L_load kV_L_load dc_L_load pm_L_load cd_L_load ct_L_load : Value}
    (a_L_load : PySem.W.nsIn K mainGlobals "_law_load" = some (some (.ref f_L_load))) (l_L_load : K.lookup f_L_load = some ⟨oc_L_load, od_L_load, .func (PySem.W.fnOf "_law_load" "_law_load" (defArgs s_L_load) (defBody s_L_load) (defScope s_L_load) .none kV_L_load dc_L_load pm_L_load an_L_load cd_L_load ct_L_load), sl_L_load⟩) (c_L_load : PySem.W.codeIn K cd_L_load "_law_load" = true) (k_L_load : PySem.W.keepIn K (.ref f_L_load) = true)
    {f_L_within : Addr} {od_L_within an_L_within : Option Addr} {sl_L_within : Array (Option Value)} {oc_L_within kV_L_within dc_L_within pm_L_within cd_L_within ct_L_within : Value}
    (a_L_within : PySem.W.nsIn K mainGlobals "_law_within" = some (some (.ref f_L_within))) (l_L_within : K.lookup f_L_within = some ⟨oc_L_within, od_L_within, .func (PySem.W.fnOf "_law_within" "_law_within" (defArgs s_L_within) (defBody s_L_within) (defScope s_L_within) .none kV_L_within dc_L_within pm_L_within an_L_within cd_L_within ct_L_within), sl_L_within⟩) (c_L_within : PySem.W.codeIn K cd_L_within "_law_within" = true) (k_L_within : PySem.W.keepIn K (.ref f_L_within) = true)
    {f_L_one_right : Addr} {od_L_one_right an_L_one_right : Option Addr} {sl_L_one_right : Array (Option Value)} {oc_L_one_right kV_L_one_right dc_L_one_right pm_L_one_right cd_L_one_right ct_L_one_right : Value}
    (a_L_one_right : PySem.W.nsIn K mainGlobals "_law_one_right" = some (some (.ref f_L_one_right))) (l_L_one_right : K.lookup f_L_one_right = some ⟨oc_L_one_right, od_L_one_right, .func (PySem.W.fnOf "_law_one_right" "_law_one_right" (defArgs s_L_one_right) (defBody s_L_one_right) (defScope s_L_one_right) .none kV_L_one_right dc_L_one_right pm_L_one_right an_L_one_right cd_L_one_right ct_L_one_right), sl_L_one_right⟩) (c_L_one_right : PySem.W.codeIn K cd_L_one_right "_law_one_right" = true) (k_L_one_right : PySem.W.keepIn K (.ref f_L_one_right) = true)
    {f_L_right : Addr} {od_L_right an_L_right : Option Addr} {sl_L_right : Array (Option Value)} {oc_L_right kV_L_right dc_L_right pm_L_right cd_L_right ct_L_right : Value}
    (a_L_right : PySem.W.nsIn K mainGlobals "_law_right" = some (some (.ref f_L_right))) (l_L_right : K.lookup f_L_right = some ⟨oc_L_right, od_L_right, .func (PySem.W.fnOf "_law_right" "_law_right" (defArgs s_L_right) (defBody s_L_right) (defScope s_L_right) .none kV_L_right dc_L_right pm_L_right an_L_right cd_L_right ct_L_right), sl_L_right⟩) (c_L_right : PySem.W.codeIn K cd_L_right "_law_right" = true) (k_L_right : PySem.W.keepIn K (.ref f_L_right) = true)
    {f_law : Addr} {od_law an_law : Option Addr} {sl_law : Array (Option Value)} {oc_law kV_law dc_law pm_law cd_law ct_law : Value}
    (a_law : PySem.W.nsIn K mainGlobals "law" = some (some (.ref f_law))) (l_law : K.lookup f_law = some ⟨oc_law, od_law, .func (PySem.W.fnOf "law" "law" (defArgs s_law) (defBody s_law) (defScope s_law) .none kV_law dc_law pm_law an_law cd_law ct_law), sl_law⟩) (c_law : PySem.W.codeIn K cd_law "law" = true) (k_law : PySem.W.keepIn K (.ref f_law) = true)
    (z_isinstance : PySem.W.nsIn K mainGlobals "isinstance" = some none)
    (z_int : PySem.W.nsIn K mainGlobals "int" = some none)
    (z_bool : PySem.W.nsIn K mainGlobals "bool" = some none)
    (z_all : PySem.W.nsIn K mainGlobals "all" = some none)
    (z_tuple : PySem.W.nsIn K mainGlobals "tuple" = some none)
    (z_len : PySem.W.nsIn K mainGlobals "len" = some none)
    (z_enumerate : PySem.W.nsIn K mainGlobals "enumerate" = some none)
    (z_range : PySem.W.nsIn K mainGlobals "range" = some none)
    (z_sum : PySem.W.nsIn K mainGlobals "sum" = some none)
    (z_zip : PySem.W.nsIn K mainGlobals "zip" = some none)
    (z_max : PySem.W.nsIn K mainGlobals "max" = some none)
    (z_reversed : PySem.W.nsIn K mainGlobals "reversed" = some none)
    (z_abs : PySem.W.nsIn K mainGlobals "abs" = some none)
    (z_min : PySem.W.nsIn K mainGlobals "min" = some none)
    {t_MOST_LOAD : Tok} (y_MOST_LOAD : PySem.W.nsIn K mainGlobals "MOST_LOAD" = some (some (.int (1000000000) t_MOST_LOAD)))
    {t_MOST_FLUSHES : Tok} (y_MOST_FLUSHES : PySem.W.nsIn K mainGlobals "MOST_FLUSHES" = some (some (.int (60) t_MOST_FLUSHES)))
    {t_NO_PARENT : Tok} (y_NO_PARENT : PySem.W.nsIn K mainGlobals "NO_PARENT" = some (some (.int (-1) t_NO_PARENT)))
    : ∃ fd : FuncData, (∀ (s : Shared) (v : Value), BindsTo s fd ⟨[v], []⟩ [("_law_script", v)]) ∧ ∀ base : Heap, K.In base → base.Ns mainGlobals mg → FnOk l.prog w K mg base CX0 11 fa fd ["_law_script"] (sp_law K) := by
  have e := hfa.symm.trans (PySem.W.mg_of X G a_law)
  cases e
  have F_is_int := fun_mk (st := s_is_int) l_is_int c_is_int k_is_int
  have B_is_int := F_is_int.binds (ps := ["value"]) fun _ _ _ _ _ _ us hl => match us, hl with | [_], _ => rfl
  have F_is_count := fun_mk (st := s_is_count) l_is_count c_is_count k_is_count
  have B_is_count := F_is_count.binds (ps := ["value"]) fun _ _ _ _ _ _ us hl => match us, hl with | [_], _ => rfl
  have F_is_count_up_to := fun_mk (st := s_is_count_up_to) l_is_count_up_to c_is_count_up_to k_is_count_up_to
  have B_is_count_up_to := F_is_count_up_to.binds (ps := ["value", "most"]) fun _ _ _ _ _ _ us hl => match us, hl with | [_, _], _ => rfl
  have F_are_loads := fun_mk (st := s_are_loads) l_are_loads c_are_loads k_are_loads
  have B_are_loads := F_are_loads.binds (ps := ["value", "fewest", "most"]) fun _ _ _ _ _ _ us hl => match us, hl with | [_, _, _], _ => rfl
  have F_check_sizes := fun_mk (st := s_check_sizes) l_check_sizes c_check_sizes k_check_sizes
  have B_check_sizes := F_check_sizes.binds (ps := ["sizes", "fewest", "most"]) fun _ _ _ _ _ _ us hl => match us, hl with | [_, _, _], _ => rfl
  have F_check_reads := fun_mk (st := s_check_reads) l_check_reads c_check_reads k_check_reads
  have B_check_reads := F_check_reads.binds (ps := ["reads", "flushes"]) fun _ _ _ _ _ _ us hl => match us, hl with | [_, _], _ => rfl
  have F_is_schedule := fun_mk (st := s_is_schedule) l_is_schedule c_is_schedule k_is_schedule
  have B_is_schedule := F_is_schedule.binds (ps := ["value"]) fun _ _ _ _ _ _ us hl => match us, hl with | [_], _ => rfl
  have F_stacks := fun_mk (st := s_stacks) l_stacks c_stacks k_stacks
  have B_stacks := F_stacks.binds (ps := ["schedule"]) fun _ _ _ _ _ _ us hl => match us, hl with | [_], _ => rfl
  have F_stack_after := fun_mk (st := s_stack_after) l_stack_after c_stack_after k_stack_after
  have B_stack_after := F_stack_after.binds (ps := ["stack", "flush", "merge"]) fun _ _ _ _ _ _ us hl => match us, hl with | [_, _, _], _ => rfl
  have F_writes := fun_mk (st := s_writes) l_writes c_writes k_writes
  have B_writes := F_writes.binds (ps := ["schedule"]) fun _ _ _ _ _ _ us hl => match us, hl with | [_], _ => rfl
  have F_run_counts := fun_mk (st := s_run_counts) l_run_counts c_run_counts k_run_counts
  have B_run_counts := F_run_counts.binds (ps := ["schedule"]) fun _ _ _ _ _ _ us hl => match us, hl with | [_], _ => rfl
  have F_write_work := fun_mk (st := s_write_work) l_write_work c_write_work k_write_work
  have B_write_work := F_write_work.binds (ps := ["schedule", "sizes"]) fun _ _ _ _ _ _ us hl => match us, hl with | [_, _], _ => rfl
  have F_weighted := fun_mk (st := s_weighted) l_weighted c_weighted k_weighted
  have B_weighted := F_weighted.binds (ps := ["loads", "counts"]) fun _ _ _ _ _ _ us hl => match us, hl with | [_, _], _ => rfl
  have F_read_work := fun_mk (st := s_read_work) l_read_work c_read_work k_read_work
  have B_read_work := F_read_work.binds (ps := ["schedule", "reads"]) fun _ _ _ _ _ _ us hl => match us, hl with | [_, _], _ => rfl
  have F_work := fun_mk (st := s_work) l_work c_work k_work
  have B_work := F_work.binds (ps := ["schedule", "sizes", "reads"]) fun _ _ _ _ _ _ us hl => match us, hl with | [_, _, _], _ => rfl
  have F_is_tree := fun_mk (st := s_is_tree) l_is_tree c_is_tree k_is_tree
  have B_is_tree := F_is_tree.binds (ps := ["value"]) fun _ _ _ _ _ _ us hl => match us, hl with | [_], _ => rfl
  have F_is_numbered_in_order := fun_mk (st := s_is_numbered_in_order) l_is_numbered_in_order c_is_numbered_in_order k_is_numbered_in_order
  have B_is_numbered_in_order := F_is_numbered_in_order.binds (ps := ["parents"]) fun _ _ _ _ _ _ us hl => match us, hl with | [_], _ => rfl
  have F_tree_of := fun_mk (st := s_tree_of) l_tree_of c_tree_of k_tree_of
  have B_tree_of := F_tree_of.binds (ps := ["schedule"]) fun _ _ _ _ _ _ us hl => match us, hl with | [_], _ => rfl
  have F_schedule_of := fun_mk (st := s_schedule_of) l_schedule_of c_schedule_of k_schedule_of
  have B_schedule_of := F_schedule_of.binds (ps := ["tree"]) fun _ _ _ _ _ _ us hl => match us, hl with | [_], _ => rfl
  have F_edges := fun_mk (st := s_edges) l_edges c_edges k_edges
  have B_edges := F_edges.binds (ps := ["tree"]) fun _ _ _ _ _ _ us hl => match us, hl with | [_], _ => rfl
  have F_edges_above := fun_mk (st := s_edges_above) l_edges_above c_edges_above k_edges_above
  have B_edges_above := F_edges_above.binds (ps := ["tree", "node"]) fun _ _ _ _ _ _ us hl => match us, hl with | [_, _], _ => rfl
  have F_mirror := fun_mk (st := s_mirror) l_mirror c_mirror k_mirror
  have B_mirror := F_mirror.binds (ps := ["schedule"]) fun _ _ _ _ _ _ us hl => match us, hl with | [_], _ => rfl
  have F_mirrored_node := fun_mk (st := s_mirrored_node) l_mirrored_node c_mirrored_node k_mirrored_node
  have B_mirrored_node := F_mirrored_node.binds (ps := ["node", "last"]) fun _ _ _ _ _ _ us hl => match us, hl with | [_, _], _ => rfl
  have F_L_pot := fun_mk (st := s_L_pot) l_L_pot c_L_pot k_L_pot
  have B_L_pot := F_L_pot.binds (ps := ["_law_script", "_law_k"]) fun _ _ _ _ _ _ us hl => match us, hl with | [_, _], _ => rfl
  have F_L_take := fun_mk (st := s_L_take) l_L_take c_L_take k_L_take
  have B_L_take := F_L_take.binds (ps := ["_law_pot_here", "_law_wide"]) fun _ _ _ _ _ _ us hl => match us, hl with | [_, _], _ => rfl
  have F_L_of := fun_mk (st := s_L_of) l_L_of c_L_of k_L_of
  have B_L_of := F_L_of.binds (ps := ["_law_pot_here", "_law_some"]) fun _ _ _ _ _ _ us hl => match us, hl with | [_, _], _ => rfl
  have F_L_plans := fun_mk (st := s_L_plans) l_L_plans c_L_plans k_L_plans
  have B_L_plans := F_L_plans.binds (ps := ["_law_count"]) fun _ _ _ _ _ _ us hl => match us, hl with | [_], _ => rfl
  have F_L_drawn_plan := fun_mk (st := s_L_drawn_plan) l_L_drawn_plan c_L_drawn_plan k_L_drawn_plan
  have B_L_drawn_plan := F_L_drawn_plan.binds (ps := ["_law_pot_here", "_law_count"]) fun _ _ _ _ _ _ us hl => match us, hl with | [_, _], _ => rfl
  have F_L_counted := fun_mk (st := s_L_counted) l_L_counted c_L_counted k_L_counted
  have B_L_counted := F_L_counted.binds (ps := ["_law_plan"]) fun _ _ _ _ _ _ us hl => match us, hl with | [_], _ => rfl
  have F_L_load := fun_mk (st := s_L_load) l_L_load c_L_load k_L_load
  have B_L_load := F_L_load.binds (ps := ["_law_pot_here", "_law_count", "_law_wide"]) fun _ _ _ _ _ _ us hl => match us, hl with | [_, _, _], _ => rfl
  have F_L_within := fun_mk (st := s_L_within) l_L_within c_L_within k_L_within
  have B_L_within := F_L_within.binds (ps := ["_law_plan", "_law_k", "_law_c"]) fun _ _ _ _ _ _ us hl => match us, hl with | [_, _, _], _ => rfl
  have F_L_one_right := fun_mk (st := s_L_one_right) l_L_one_right c_L_one_right k_L_one_right
  have B_L_one_right := F_L_one_right.binds (ps := ["_law_plan", "_law_bulk", "_law_looks"]) fun _ _ _ _ _ _ us hl => match us, hl with | [_, _, _], _ => rfl
  have F_L_right := fun_mk (st := s_L_right) l_L_right c_L_right k_L_right
  have B_L_right := F_L_right.binds (ps := ["_law_pot_here"]) fun _ _ _ _ _ _ us hl => match us, hl with | [_], _ => rfl
  have F_law := fun_mk (st := s_law) l_law c_law k_law
  have B_law := F_law.binds (ps := ["_law_script"]) fun _ _ _ _ _ _ us hl => match us, hl with | [_], _ => rfl
  let TX : Tx K mg := ⟨_, _, F_is_int, PySem.W.mg_of X G a_is_int, B_is_int, _, _, F_is_count, PySem.W.mg_of X G a_is_count, B_is_count, _, _, F_is_count_up_to, PySem.W.mg_of X G a_is_count_up_to, B_is_count_up_to, _, _, F_are_loads, PySem.W.mg_of X G a_are_loads, B_are_loads, _, _, F_check_sizes, PySem.W.mg_of X G a_check_sizes, B_check_sizes, _, _, F_check_reads, PySem.W.mg_of X G a_check_reads, B_check_reads, _, _, F_is_schedule, PySem.W.mg_of X G a_is_schedule, B_is_schedule, _, _, F_stacks, PySem.W.mg_of X G a_stacks, B_stacks, _, _, F_stack_after, PySem.W.mg_of X G a_stack_after, B_stack_after, _, _, F_writes, PySem.W.mg_of X G a_writes, B_writes, _, _, F_run_counts, PySem.W.mg_of X G a_run_counts, B_run_counts, _, _, F_write_work, PySem.W.mg_of X G a_write_work, B_write_work, _, _, F_weighted, PySem.W.mg_of X G a_weighted, B_weighted, _, _, F_read_work, PySem.W.mg_of X G a_read_work, B_read_work, _, _, F_work, PySem.W.mg_of X G a_work, B_work, _, _, F_is_tree, PySem.W.mg_of X G a_is_tree, B_is_tree, _, _, F_is_numbered_in_order, PySem.W.mg_of X G a_is_numbered_in_order, B_is_numbered_in_order, _, _, F_tree_of, PySem.W.mg_of X G a_tree_of, B_tree_of, _, _, F_schedule_of, PySem.W.mg_of X G a_schedule_of, B_schedule_of, _, _, F_edges, PySem.W.mg_of X G a_edges, B_edges, _, _, F_edges_above, PySem.W.mg_of X G a_edges_above, B_edges_above, _, _, F_mirror, PySem.W.mg_of X G a_mirror, B_mirror, _, _, F_mirrored_node, PySem.W.mg_of X G a_mirrored_node, B_mirrored_node, _, _, F_L_pot, PySem.W.mg_of X G a_L_pot, B_L_pot, _, _, F_L_take, PySem.W.mg_of X G a_L_take, B_L_take, _, _, F_L_of, PySem.W.mg_of X G a_L_of, B_L_of, _, _, F_L_plans, PySem.W.mg_of X G a_L_plans, B_L_plans, _, _, F_L_drawn_plan, PySem.W.mg_of X G a_L_drawn_plan, B_L_drawn_plan, _, _, F_L_counted, PySem.W.mg_of X G a_L_counted, B_L_counted, _, _, F_L_load, PySem.W.mg_of X G a_L_load, B_L_load, _, _, F_L_within, PySem.W.mg_of X G a_L_within, B_L_within, _, _, F_L_one_right, PySem.W.mg_of X G a_L_one_right, B_L_one_right, _, _, F_L_right, PySem.W.mg_of X G a_L_right, B_L_right, _, _, F_law, PySem.W.mg_of X G a_law, B_law, PySem.W.mg_none_of X G z_isinstance, PySem.W.mg_none_of X G z_int, PySem.W.mg_none_of X G z_bool, PySem.W.mg_none_of X G z_all, PySem.W.mg_none_of X G z_tuple, PySem.W.mg_none_of X G z_len, PySem.W.mg_none_of X G z_enumerate, PySem.W.mg_none_of X G z_range, PySem.W.mg_none_of X G z_sum, PySem.W.mg_none_of X G z_zip, PySem.W.mg_none_of X G z_max, PySem.W.mg_none_of X G z_reversed, PySem.W.mg_none_of X G z_abs, PySem.W.mg_none_of X G z_min, _, PySem.W.mg_of X G y_MOST_LOAD, _, PySem.W.mg_of X G y_MOST_FLUSHES, _, PySem.W.mg_of X G y_NO_PARENT⟩
  exact ⟨TX.fd_law, fun s v => .of_eq rfl, fun base _ _ => ok_law TX⟩
end MB
open PySem PySem.W PyProof.Rows
set_option maxHeartbeats 0 in
theorem PySem.Challenge.cw_mergebudget_k83_whole_mirror_keeps_work_holds : PySem.Challenge.rw_mergebudget_k83_whole_mirror_keeps_work.Holds := by
  w_on; o_law; k_head; (case hw => w_witness2)
  k_fill
  refine L2.walk_of (l := PySem.Challenge.rw_mergebudget_k83_whole_mirror_keeps_work) (n := 63) (k := 11) (x := "_law_script") (CX := fun _ => L2.CX0) (sp := fun w => MB.sp_law _) rfl (by decide) rfl ⟨rfl, by decide, by decide⟩ (fun w h Y => PySem.W.kIn_of Y) ?F (fun _ _ a ns hl _ hS => ⟨a, ns, rfl, hS, hl, fun _ => rfl⟩) (fun _ _ _ _ _ h => h)
  case F =>
    intro w mg fa h KX G hmg
    refine' MB.all_mk KX G hmg ?a_is_int ?l_is_int ?c_is_int ?k_is_int ?a_is_count ?l_is_count ?c_is_count ?k_is_count ?a_is_count_up_to ?l_is_count_up_to ?c_is_count_up_to ?k_is_count_up_to ?a_are_loads ?l_are_loads ?c_are_loads ?k_are_loads ?a_check_sizes ?l_check_sizes ?c_check_sizes ?k_check_sizes ?a_check_reads ?l_check_reads ?c_check_reads ?k_check_reads ?a_is_schedule ?l_is_schedule ?c_is_schedule ?k_is_schedule ?a_stacks ?l_stacks ?c_stacks ?k_stacks ?a_stack_after ?l_stack_after ?c_stack_after ?k_stack_after ?a_writes ?l_writes ?c_writes ?k_writes ?a_run_counts ?l_run_counts ?c_run_counts ?k_run_counts ?a_write_work ?l_write_work ?c_write_work ?k_write_work ?a_weighted ?l_weighted ?c_weighted ?k_weighted ?a_read_work ?l_read_work ?c_read_work ?k_read_work ?a_work ?l_work ?c_work ?k_work ?a_is_tree ?l_is_tree ?c_is_tree ?k_is_tree ?a_is_numbered_in_order ?l_is_numbered_in_order ?c_is_numbered_in_order ?k_is_numbered_in_order ?a_tree_of ?l_tree_of ?c_tree_of ?k_tree_of ?a_schedule_of ?l_schedule_of ?c_schedule_of ?k_schedule_of ?a_edges ?l_edges ?c_edges ?k_edges ?a_edges_above ?l_edges_above ?c_edges_above ?k_edges_above ?a_mirror ?l_mirror ?c_mirror ?k_mirror ?a_mirrored_node ?l_mirrored_node ?c_mirrored_node ?k_mirrored_node ?a_L_pot ?l_L_pot ?c_L_pot ?k_L_pot ?a_L_take ?l_L_take ?c_L_take ?k_L_take ?a_L_of ?l_L_of ?c_L_of ?k_L_of ?a_L_plans ?l_L_plans ?c_L_plans ?k_L_plans ?a_L_drawn_plan ?l_L_drawn_plan ?c_L_drawn_plan ?k_L_drawn_plan ?a_L_counted ?l_L_counted ?c_L_counted ?k_L_counted ?a_L_load ?l_L_load ?c_L_load ?k_L_load ?a_L_within ?l_L_within ?c_L_within ?k_L_within ?a_L_one_right ?l_L_one_right ?c_L_one_right ?k_L_one_right ?a_L_right ?l_L_right ?c_L_right ?k_L_right ?a_law ?l_law ?c_law ?k_law ?z_isinstance ?z_int ?z_bool ?z_all ?z_tuple ?z_len ?z_enumerate ?z_range ?z_sum ?z_zip ?z_max ?z_reversed ?z_abs ?z_min ?y_MOST_LOAD ?y_MOST_FLUSHES ?y_NO_PARENT
    (case a_is_int => k_is); (case l_is_int => k_is); (case c_is_int => k_is); (case k_is_int => k_is); (case a_is_count => k_is); (case l_is_count => k_is); (case c_is_count => k_is); (case k_is_count => k_is); (case a_is_count_up_to => k_is); (case l_is_count_up_to => k_is); (case c_is_count_up_to => k_is); (case k_is_count_up_to => k_is); (case a_are_loads => k_is); (case l_are_loads => k_is); (case c_are_loads => k_is); (case k_are_loads => k_is); (case a_check_sizes => k_is); (case l_check_sizes => k_is); (case c_check_sizes => k_is); (case k_check_sizes => k_is); (case a_check_reads => k_is); (case l_check_reads => k_is); (case c_check_reads => k_is); (case k_check_reads => k_is); (case a_is_schedule => k_is); (case l_is_schedule => k_is); (case c_is_schedule => k_is); (case k_is_schedule => k_is); (case a_stacks => k_is); (case l_stacks => k_is); (case c_stacks => k_is); (case k_stacks => k_is); (case a_stack_after => k_is); (case l_stack_after => k_is); (case c_stack_after => k_is); (case k_stack_after => k_is); (case a_writes => k_is); (case l_writes => k_is); (case c_writes => k_is); (case k_writes => k_is); (case a_run_counts => k_is); (case l_run_counts => k_is); (case c_run_counts => k_is); (case k_run_counts => k_is); (case a_write_work => k_is); (case l_write_work => k_is); (case c_write_work => k_is); (case k_write_work => k_is); (case a_weighted => k_is); (case l_weighted => k_is); (case c_weighted => k_is); (case k_weighted => k_is); (case a_read_work => k_is); (case l_read_work => k_is); (case c_read_work => k_is); (case k_read_work => k_is); (case a_work => k_is); (case l_work => k_is); (case c_work => k_is); (case k_work => k_is); (case a_is_tree => k_is); (case l_is_tree => k_is); (case c_is_tree => k_is); (case k_is_tree => k_is); (case a_is_numbered_in_order => k_is); (case l_is_numbered_in_order => k_is); (case c_is_numbered_in_order => k_is); (case k_is_numbered_in_order => k_is); (case a_tree_of => k_is); (case l_tree_of => k_is); (case c_tree_of => k_is); (case k_tree_of => k_is); (case a_schedule_of => k_is); (case l_schedule_of => k_is); (case c_schedule_of => k_is); (case k_schedule_of => k_is); (case a_edges => k_is); (case l_edges => k_is); (case c_edges => k_is); (case k_edges => k_is); (case a_edges_above => k_is); (case l_edges_above => k_is); (case c_edges_above => k_is); (case k_edges_above => k_is); (case a_mirror => k_is); (case l_mirror => k_is); (case c_mirror => k_is); (case k_mirror => k_is); (case a_mirrored_node => k_is); (case l_mirrored_node => k_is); (case c_mirrored_node => k_is); (case k_mirrored_node => k_is); (case a_L_pot => k_is); (case l_L_pot => k_is); (case c_L_pot => k_is); (case k_L_pot => k_is); (case a_L_take => k_is); (case l_L_take => k_is); (case c_L_take => k_is); (case k_L_take => k_is); (case a_L_of => k_is); (case l_L_of => k_is); (case c_L_of => k_is); (case k_L_of => k_is); (case a_L_plans => k_is); (case l_L_plans => k_is); (case c_L_plans => k_is); (case k_L_plans => k_is); (case a_L_drawn_plan => k_is); (case l_L_drawn_plan => k_is); (case c_L_drawn_plan => k_is); (case k_L_drawn_plan => k_is); (case a_L_counted => k_is); (case l_L_counted => k_is); (case c_L_counted => k_is); (case k_L_counted => k_is); (case a_L_load => k_is); (case l_L_load => k_is); (case c_L_load => k_is); (case k_L_load => k_is); (case a_L_within => k_is); (case l_L_within => k_is); (case c_L_within => k_is); (case k_L_within => k_is); (case a_L_one_right => k_is); (case l_L_one_right => k_is); (case c_L_one_right => k_is); (case k_L_one_right => k_is); (case a_L_right => k_is); (case l_L_right => k_is); (case c_L_right => k_is); (case k_L_right => k_is); (case a_law => k_is); (case l_law => k_is); (case c_law => k_is); (case k_law => k_is); (case z_isinstance => k_is); (case z_int => k_is); (case z_bool => k_is); (case z_all => k_is); (case z_tuple => k_is); (case z_len => k_is); (case z_enumerate => k_is); (case z_range => k_is); (case z_sum => k_is); (case z_zip => k_is); (case z_max => k_is); (case z_reversed => k_is); (case z_abs => k_is); (case z_min => k_is); (case y_MOST_LOAD => k_is); (case y_MOST_FLUSHES => k_is); (case y_NO_PARENT => k_is)
