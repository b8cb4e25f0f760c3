import PyProof.Rows.All
import Wide.All
import OpenK.AllK
import Wide.FinOn
import HandS.ForMost
import HandS.IsInst
import HandS.Wide
import HandS.TupAny
import HandS.TupMul
import HandS.Rev
import HandS.Style
import HandS.Strs
import HandS.Walk
import KE.GoesEnum
import HandS.Dict
import HandS.TupSets
import KE.KDictPairs
import HandS.List
import KE.KRevSl
import PyProof.ReprRoads
import PyProof.ReprBulk
import HandS.WideMore
import HandS.SortKw
import HandS.SortInts
import KE.DataMinMax
import PySem.Challenge.RW_mergebudget_k11_schedules_counted_within
set_option Elab.async false
set_option linter.all false
set_option maxRecDepth 100000
namespace MB
inductive T where
  | nil
  | node (l r : T)
  deriving DecidableEq

namespace T
def size : T → Nat
  | nil => 0
  | node l r => l.size + 1 + r.size
def runs : T → Nat
  | nil => 0
  | node _ r => 1 + r.runs
def sch : T → List Nat
  | nil => []
  | node l r => l.sch ++ l.runs :: r.sch
def rc : T → List Nat
  | nil => []
  | node l r => l.rc ++ 1 :: r.rc.map (· + 1)
def wr : T → List Nat
  | nil => []
  | node l r => l.wr.map (· + 1) ++ 1 :: r.wr
/-- parents: off, the number of the first node; p, the parent of the root -/
def par (off p : Int) : T → List Int
  | nil => []
  | node l r => par off (off + l.size) l ++ p :: par (off + l.size + 1) (off + l.size) r
def mir : T → T
  | nil => nil
  | node l r => node r.mir l.mir
def push (t : T) (m : Nat) : T :=
  if m = t.runs then node t nil else match t with
    | nil => nil
    | node l r => node l (push r m)
/-- the first flush of the run that a flush that merges m writes -/
def start (t : T) (m : Nat) : Nat :=
  if m = t.runs then 0 else match t with
    | nil => 0
    | node l r => l.size + 1 + start r m
/-- the stack: intervals of the right spine -/
def stk (off : Nat) : T → List (Nat × Nat)
  | nil => []
  | node l r => (off, off + l.size + 1) :: stk (off + l.size + 1) r
def graft : T → T → T
  | nil, t => t
  | node l r, t => node l (graft r t)

theorem sch_len : ∀ t : T, t.sch.length = t.size
  | nil => rfl
  | node l r => by simp [sch, size, sch_len l, sch_len r]; omega
theorem rc_len : ∀ t : T, t.rc.length = t.size
  | nil => rfl
  | node l r => by simp [rc, size, rc_len l, rc_len r]; omega
theorem wr_len : ∀ t : T, t.wr.length = t.size
  | nil => rfl
  | node l r => by simp [wr, size, wr_len l, wr_len r]; omega
theorem par_len : ∀ (t : T) (off p : Int), (t.par off p).length = t.size
  | nil, _, _ => rfl
  | node l r, off, p => by simp [par, size, par_len l, par_len r]; omega
theorem runs_le : ∀ t : T, t.runs ≤ t.size
  | nil => Nat.le_refl _
  | node l r => by have := runs_le r; simp [runs, size]; omega
theorem sum_sch : ∀ t : T, t.sch.sum + t.runs = t.size
  | nil => rfl
  | node l r => by
    have h1 := sum_sch l; have h2 := sum_sch r
    simp [sch, runs, size, List.sum_append]; omega
theorem stk_len : ∀ (t : T) (off : Nat), (t.stk off).length = t.runs
  | nil, _ => rfl
  | node l r, off => by simp [stk, runs, stk_len r]; omega

/-! ### push -/
theorem push_eq {t : T} : t.push t.runs = node t nil := by
  unfold push; rw [if_pos rfl]
theorem push_node {l r : T} {m : Nat} (h : m ≤ r.runs) : (node l r).push m = node l (r.push m) := by
  conv => lhs; unfold push
  rw [if_neg (by simp [runs]; omega)]
theorem start_eq {t : T} : t.start t.runs = 0 := by
  unfold start; rw [if_pos rfl]
theorem start_node {l r : T} {m : Nat} (h : m ≤ r.runs) : (node l r).start m = l.size + 1 + r.start m := by
  conv => lhs; unfold start
  rw [if_neg (by simp [runs]; omega)]
/-- the two ways of a push -/
theorem push_ind {C : T → Nat → Prop} (h1 : ∀ t, C t t.runs) (h2 : ∀ l r m, m ≤ r.runs → C r m → C (node l r) m) : ∀ (t : T) (m : Nat), m ≤ t.runs → C t m
  | nil, m, h => by
    have : m = nil.runs := by simp [runs] at h ⊢; omega
    rw [this]; exact h1 nil
  | node l r, m, h => by
    by_cases e : m = (node l r).runs
    · rw [e]; exact h1 _
    · have hm : m ≤ r.runs := by simp [runs] at h e; omega
      exact h2 l r m hm (push_ind h1 h2 r m hm)
theorem push_sch : ∀ (t : T) (m : Nat), m ≤ t.runs → (t.push m).sch = t.sch ++ [m] :=
  push_ind (fun t => by rw [push_eq]; simp [sch]) fun l r m h ih => by rw [push_node h]; simp [sch, ih]
theorem push_size : ∀ (t : T) (m : Nat), m ≤ t.runs → (t.push m).size = t.size + 1 :=
  push_ind (fun t => by rw [push_eq]; simp [size]) fun l r m h ih => by rw [push_node h]; simp [size, ih]; omega
theorem push_runs : ∀ (t : T) (m : Nat), m ≤ t.runs → (t.push m).runs = t.runs - m + 1 :=
  push_ind (fun t => by rw [push_eq]; simp [runs]) fun l r m h ih => by rw [push_node h]; simp [runs, ih]; omega
theorem push_rc : ∀ (t : T) (m : Nat), m ≤ t.runs → (t.push m).rc = t.rc ++ [t.runs - m + 1] :=
  push_ind (fun t => by rw [push_eq]; simp [rc]) fun l r m h ih => by
    rw [push_node h]; simp [rc, ih, runs]; omega
theorem start_le : ∀ (t : T) (m : Nat), m ≤ t.runs → t.start m ≤ t.size :=
  push_ind (fun t => by rw [start_eq]; omega) fun l r m h ih => by rw [start_node h]; simp [size]; omega
theorem push_wr : ∀ (t : T) (m : Nat), m ≤ t.runs → (t.push m).wr = t.wr.take (t.start m) ++ ((t.wr.drop (t.start m)).map (· + 1) ++ [1]) :=
  push_ind (fun t => by rw [push_eq, start_eq]; simp [wr]) fun l r m h ih => by
    rw [push_node h, start_node h]
    have e : (wr (node l r)) = (l.wr.map (· + 1) ++ [1]) ++ r.wr := by simp [wr]
    have el : (l.wr.map (· + 1) ++ [1]).length = l.size + 1 := by simp [wr_len]
    rw [e, List.take_append, List.drop_append, el]
    rw [List.take_of_length_le (by rw [el]; omega), List.drop_eq_nil_of_le (by rw [el]; omega)]
    rw [show l.size + 1 + r.start m - (l.size + 1) = r.start m by omega]
    simp [wr, ih]
theorem stk_push : ∀ (t : T) (m : Nat), m ≤ t.runs → ∀ off, (t.push m).stk off = (t.stk off).take (t.runs - m) ++ [(off + t.start m, off + t.size + 1)] :=
  push_ind (fun t off => by rw [push_eq, start_eq]; simp [stk]) fun l r m h ih off => by
    rw [push_node h, start_node h]
    have hh : (node l r).runs - m = (r.runs - m) + 1 := by simp [runs]; omega
    rw [hh]
    simp [stk, ih, size]
    omega
theorem stk_at : ∀ (t : T) (m : Nat), m ≤ t.runs → ∀ off, 0 < m → ∃ e, (t.stk off)[t.runs - m]? = some (off + t.start m, e) :=
  push_ind (fun t off h => by
      rw [start_eq, Nat.sub_self]
      cases t with
      | nil => simp [runs] at h
      | node l r => exact ⟨_, rfl⟩) fun l r m h ih off h0 => by
    rw [start_node h]
    have hh : (node l r).runs - m = (r.runs - m) + 1 := by simp [runs]; omega
    rw [hh]
    obtain ⟨e, he⟩ := ih (off + l.size + 1) h0
    refine ⟨e, ?_⟩
    simp only [stk, List.getElem?_cons_succ, he]
    congr 2; omega
theorem start_zero : ∀ (t : T) (m : Nat), m ≤ t.runs → m = 0 → t.start m = t.size :=
  push_ind (fun t h => by
      rw [start_eq]
      cases t with
      | nil => rfl
      | node l r => simp [runs] at h) fun l r m h ih h0 => by
    rw [start_node h, ih h0]; simp [size]

/-! ### schedules and trees -/
theorem graft_nil : ∀ t : T, t.graft nil = t
  | nil => rfl
  | node l r => by simp [graft, graft_nil r]
theorem graft_assoc : ∀ a b c : T, (a.graft b).graft c = a.graft (b.graft c)
  | nil, _, _ => rfl
  | node l r, b, c => by simp [graft, graft_assoc r b c]
theorem graft_runs : ∀ a b : T, (a.graft b).runs = a.runs + b.runs
  | nil, b => by simp [graft, runs]
  | node l r, b => by simp [graft, runs, graft_runs r b]; omega
theorem graft_push : ∀ (u l : T), (u.graft l).push l.runs = u.graft (node l nil)
  | nil, l => by simp [graft, push_eq]
  | node a b, l => by
    simp only [graft]
    rw [push_node (by rw [graft_runs]; omega), graft_push b l]
theorem foldl_sch : ∀ (t u : T), t.sch.foldl push u = u.graft t
  | nil, u => by simp [sch, graft_nil]
  | node l r, u => by
    simp only [sch, List.foldl_append, List.foldl_cons]
    rw [foldl_sch l u, graft_push, foldl_sch r, graft_assoc]
    rfl
theorem sch_inj {a b : T} (h : a.sch = b.sch) : a = b := by
  have e1 := foldl_sch a nil
  have e2 := foldl_sch b nil
  rw [h, e2] at e1
  exact e1.symm
end T

/-- a schedule that begins with `runs` runs -/
def Ok : Nat → List Nat → Prop
  | _, [] => True
  | k, m :: r => m ≤ k ∧ Ok (k - m + 1) r
theorem ok_tree : ∀ (p : List Nat) (u : T), Ok u.runs p → ∃ t : T, t.sch = u.sch ++ p ∧ p.foldl T.push u = t
  | [], u, _ => ⟨u, by simp, rfl⟩
  | m :: r, u, h => by
    obtain ⟨h1, h2⟩ := h
    rw [← T.push_runs u m h1] at h2
    obtain ⟨t, e1, e2⟩ := ok_tree r (u.push m) h2
    exact ⟨t, by rw [e1, T.push_sch u m h1]; simp, e2⟩
theorem tree_ex {p : List Nat} (h : Ok 0 p) : ∃ t : T, t.sch = p := by
  obtain ⟨t, e, _⟩ := ok_tree p .nil h
  exact ⟨t, by rw [e]; rfl⟩
theorem ok_app : ∀ (p q : List Nat) (k k' : Nat), Ok k p → k' + p.sum = k + p.length → Ok k' q → Ok k (p ++ q)
  | [], q, k, k', _, e, h => by
    have : k' = k := by simpa using e
    subst this; exact h
  | m :: r, q, k, k', h, e, hq => ⟨h.1, ok_app r q (k - m + 1) k' h.2 (by have := h.1; simp at e; omega) hq⟩
theorem ok_sch_from : ∀ (t : T) (k : Nat), Ok k t.sch
  | .nil, _ => trivial
  | .node l r, k => by
    refine ok_app l.sch _ k (k + l.runs) (ok_sch_from l k) (by have := T.sum_sch l; rw [T.sch_len]; omega) ?_
    exact ⟨by omega, ok_sch_from r _⟩
theorem ok_take : ∀ (p : List Nat) (k i : Nat), Ok k p → Ok k (p.take i)
  | [], _, i, _ => by cases i <;> trivial
  | m :: r, k, 0, _ => trivial
  | m :: r, k, i + 1, h => ⟨h.1, ok_take r _ i h.2⟩
/-- the tree of the first i flushes -/
def pre (t : T) (i : Nat) : T := (t.sch.take i).foldl T.push .nil
theorem pre_sch (t : T) (i : Nat) : (pre t i).sch = t.sch.take i := by
  obtain ⟨u, e1, e2⟩ := ok_tree (t.sch.take i) .nil (ok_take _ _ i (ok_sch_from t _))
  unfold pre; rw [e2, e1]; rfl
theorem pre_size {t : T} {i : Nat} (h : i ≤ t.size) : (pre t i).size = i := by
  rw [← T.sch_len, pre_sch, List.length_take, T.sch_len]; omega
theorem pre_zero (t : T) : pre t 0 = .nil := rfl
theorem pre_all (t : T) : pre t t.size = t := T.sch_inj (by rw [pre_sch, List.take_of_length_le (by rw [T.sch_len]; exact Nat.le_refl _)])
theorem ok_last : ∀ (p : List Nat) (k m : Nat) (q : List Nat), Ok k (p ++ m :: q) → m + p.sum ≤ k + p.length
  | [], k, m, q, h => by simpa using h.1
  | a :: r, k, m, q, h => by
    have := ok_last r (k - a + 1) m q h.2
    have h1 := h.1
    simp; omega
theorem pre_succ {t : T} {i : Nat} {m : Nat} (h : t.sch[i]? = some m) : pre t (i + 1) = (pre t i).push m ∧ m ≤ (pre t i).runs := by
  have hi : i < t.sch.length := (List.getElem?_eq_some_iff.mp h).1
  constructor
  · unfold pre
    rw [List.take_add_one, h]
    simp
  · have e : t.sch = t.sch.take i ++ m :: t.sch.drop (i + 1) := by
      have h2 := List.getElem?_eq_some_iff.mp h
      obtain ⟨h3, h4⟩ := h2
      rw [← h4]
      simp
    have h1 := ok_sch_from t 0
    rw [e] at h1
    have h2 := ok_last _ _ _ _ h1
    have h3 := T.sum_sch (pre t i)
    rw [pre_sch] at h3
    have h4 : (pre t i).size = (t.sch.take i).length := by rw [← T.sch_len, pre_sch]
    omega
theorem rc_take : ∀ (t : T) (i : Nat), (pre t i).rc = t.rc.take i := by
  intro t i
  by_cases hi : i ≤ t.size
  · suffices h : ∀ k, i + k = t.size → (pre t i).rc = t.rc.take i from h (t.size - i) (by omega)
    intro k
    induction k generalizing i with
    | zero =>
      intro e
      rw [show i = t.size by omega, pre_all, List.take_of_length_le (by rw [T.rc_len]; omega)]
    | succ k ih =>
      intro e
      have hl : i < t.sch.length := by rw [T.sch_len]; omega
      obtain ⟨e1, h1⟩ := pre_succ (List.getElem?_eq_getElem hl)
      have h2 := ih (i + 1) (by omega) (by omega)
      rw [e1, T.push_rc _ _ h1] at h2
      have h3 := congrArg (List.take i) h2
      rw [List.take_append_of_le_length (by rw [T.rc_len, pre_size (by omega)]; omega), List.take_take, List.take_of_length_le (by rw [T.rc_len, pre_size (by omega)]; omega)] at h3
      rw [h3]; congr 1; omega
  · have e : t.sch.take i = t.sch := List.take_of_length_le (by rw [T.sch_len]; omega)
    have : pre t i = t := T.sch_inj (by rw [pre_sch, e])
    rw [this, List.take_of_length_le (by rw [T.rc_len]; omega)]
theorem rc_at {t : T} {i m : Nat} (h : t.sch[i]? = some m) : t.rc[i]? = some ((pre t i).runs - m + 1) := by
  obtain ⟨e1, h1⟩ := pre_succ h
  have hi : i < t.size := by rw [← T.sch_len]; exact (List.getElem?_eq_some_iff.mp h).1
  have h2 := rc_take t (i + 1)
  rw [e1, T.push_rc _ _ h1] at h2
  have h3 := congrArg (fun l : List Nat => l[i]?) h2
  simp only [List.getElem?_take] at h3
  rw [List.getElem?_append_right (by rw [T.rc_len, pre_size (by omega)]; omega), T.rc_len, pre_size (by omega)] at h3
  simp at h3
  exact h3.symm
theorem pre_runs {t : T} {i : Nat} (h : i < t.size) : t.rc[i]? = some (pre t (i + 1)).runs := by
  have hl : i < t.sch.length := by rw [T.sch_len]; exact h
  obtain ⟨e1, h1⟩ := pre_succ (List.getElem?_eq_getElem hl)
  rw [rc_at (List.getElem?_eq_getElem hl), e1, T.push_runs _ _ h1]
/-! ### write counts by place -/
theorem wr_step {t : T} {m : Nat} (h : m ≤ t.runs) (k : Nat) : ((t.push m).wr.getD k 0) = if t.start m ≤ k ∧ k < t.size + 1 then t.wr.getD k 0 + 1 else t.wr.getD k 0 := by
  have hs := T.start_le t m h
  have hl := T.wr_len t
  rw [T.push_wr t m h]
  simp only [List.getD_eq_getElem?_getD]
  by_cases h1 : k < t.start m
  · rw [List.getElem?_append_left (by rw [List.length_take]; omega), List.getElem?_take, if_pos h1, if_neg (by omega)]
  · have e : (t.wr.take (t.start m)).length = t.start m := by rw [List.length_take]; omega
    rw [List.getElem?_append_right (by omega), e]
    by_cases h2 : k < t.size
    · rw [List.getElem?_append_left (by rw [List.length_map, List.length_drop]; omega), List.getElem?_map, List.getElem?_drop, if_pos (by omega), show t.start m + (k - t.start m) = k by omega]
      rw [List.getElem?_eq_getElem (by omega)]
      rfl
    · by_cases h3 : k = t.size
      · have e2 : ((t.wr.drop (t.start m)).map (· + 1)).length = k - t.start m := by rw [List.length_map, List.length_drop]; omega
        rw [List.getElem?_append_right (by omega), e2, Nat.sub_self, if_pos (by omega), List.getElem?_eq_none (by omega : t.wr.length ≤ k)]
        rfl
      · rw [List.getElem?_eq_none (by simp; omega), if_neg (by omega), List.getElem?_eq_none (by omega : t.wr.length ≤ k)]
theorem list_by {c d : List Nat} (hl : c.length = d.length) (h : ∀ k, k < c.length → c[k]? = some (d.getD k 0)) : c = d := by
  refine List.ext_getElem? fun k => ?_
  by_cases hk : k < c.length
  · rw [h k hk, List.getD_eq_getElem?_getD, List.getElem?_eq_getElem (by omega)]
    rfl
  · rw [List.getElem?_eq_none (by omega), List.getElem?_eq_none (by omega)]
theorem stk_last {t : T} {i m : Nat} (h : t.sch[i]? = some m) : (pre t (i + 1)).stk 0 = ((pre t i).stk 0).take ((pre t i).runs - m) ++ [((pre t i).start m, i + 1)] := by
  obtain ⟨e, h1⟩ := pre_succ h
  have hi : i < t.size := by rw [← T.sch_len]; exact (List.getElem?_eq_some_iff.mp h).1
  rw [e, T.stk_push _ _ h1, Nat.zero_add, Nat.zero_add, pre_size (by omega)]

/-! ### subtrees -/
inductive Sub (t : T) : Nat → T → Nat → Int → Prop
  | root : Sub t 0 t 1 (-1)
  | left {off k : Nat} {p : Int} {l r : T} : Sub t off (.node l r) k p → Sub t off l k ((off + l.size : Nat) : Int)
  | right {off k : Nat} {p : Int} {l r : T} : Sub t off (.node l r) k p → Sub t (off + l.size + 1) r (k + 1) ((off + l.size : Nat) : Int)
def T.parOf (t : T) : List Int := t.par 0 (-1)
theorem slice_left {α : Type} {L a b : List α} {x : α} {off : Nat} (h : (L.drop off).take (a.length + 1 + b.length) = a ++ x :: b) : (L.drop off).take a.length = a := by
  have := congrArg (List.take a.length) h
  rw [List.take_take, List.take_left' rfl, show min a.length (a.length + 1 + b.length) = a.length by omega] at this
  exact this
theorem slice_mid {α : Type} {L a b : List α} {x : α} {off : Nat} (h : (L.drop off).take (a.length + 1 + b.length) = a ++ x :: b) : L[off + a.length]? = some x := by
  have := congrArg (fun l : List α => l[a.length]?) h
  simp only [List.getElem?_take, List.getElem?_drop] at this
  rw [if_pos (by omega), List.getElem?_append_right (Nat.le_refl _), Nat.sub_self] at this
  simpa using this
theorem slice_right {α : Type} {L a b : List α} {x : α} {off : Nat} (h : (L.drop off).take (a.length + 1 + b.length) = a ++ x :: b) : (L.drop (off + a.length + 1)).take b.length = b := by
  have := congrArg (List.drop (a.length + 1)) h
  rw [List.drop_take, List.drop_drop] at this
  have e2 : List.drop (a.length + 1) (a ++ x :: b) = b := by
    rw [List.drop_append]; simp
  rw [e2] at this
  have h2 := congrArg (List.take b.length) this
  rw [List.take_take, List.take_length] at h2
  rw [← Nat.add_assoc] at h2
  rw [show b.length = min b.length (a.length + 1 + b.length - (a.length + 1)) by omega]
  exact h2
theorem sub_le {t : T} {off k : Nat} {s : T} {p : Int} (h : Sub t off s k p) : off + s.size ≤ t.size ∧ 1 ≤ k ∧ k ≤ off + 1 := by
  induction h with
  | root => exact ⟨by omega, by omega, by omega⟩
  | left _ ih => simp only [T.size] at ih; omega
  | right _ ih => simp only [T.size] at ih; omega
theorem sub_out {t : T} {off k : Nat} {s : T} {p : Int} (h : Sub t off s k p) : (p = -1 ∨ ((0 ≤ p ∧ p < t.size) ∧ (p + 1 = off ∨ p = ((off + s.size : Nat) : Int)))) := by
  cases h with
  | root => exact .inl rfl
  | left h => have := sub_le h; simp only [T.size] at this; exact .inr ⟨by omega, .inr rfl⟩
  | right h => have := sub_le h; simp only [T.size] at this; exact .inr ⟨by omega, .inl (by omega)⟩
theorem sub_rc {t : T} {off k : Nat} {s : T} {p : Int} (h : Sub t off s k p) : (t.rc.drop off).take s.size = s.rc.map (· + (k - 1)) := by
  induction h with
  | root => simp [← T.rc_len]
  | @left off k p l r h ih =>
    have e : (T.node l r).rc.map (· + (k - 1)) = l.rc.map (· + (k - 1)) ++ (1 + (k - 1)) :: (r.rc.map (· + 1)).map (· + (k - 1)) := by simp [T.rc]
    rw [e] at ih
    have hl : (l.rc.map (· + (k - 1))).length = l.size := by rw [List.length_map, T.rc_len]
    have hr : ((r.rc.map (· + 1)).map (· + (k - 1))).length = r.size := by rw [List.length_map, List.length_map, T.rc_len]
    have := slice_left (a := l.rc.map (· + (k - 1))) (b := (r.rc.map (· + 1)).map (· + (k - 1))) (L := t.rc) (off := off) (x := 1 + (k - 1)) (by rw [hl, hr]; exact ih)
    rw [hl] at this
    exact this
  | @right off k p l r h ih =>
    have e : (T.node l r).rc.map (· + (k - 1)) = l.rc.map (· + (k - 1)) ++ (1 + (k - 1)) :: (r.rc.map (· + 1)).map (· + (k - 1)) := by simp [T.rc]
    rw [e] at ih
    have hl : (l.rc.map (· + (k - 1))).length = l.size := by rw [List.length_map, T.rc_len]
    have hr : ((r.rc.map (· + 1)).map (· + (k - 1))).length = r.size := by rw [List.length_map, List.length_map, T.rc_len]
    have := slice_right (a := l.rc.map (· + (k - 1))) (b := (r.rc.map (· + 1)).map (· + (k - 1))) (L := t.rc) (off := off) (x := 1 + (k - 1)) (by rw [hl, hr]; exact ih)
    rw [hl, hr] at this
    rw [this, List.map_map]
    refine List.map_congr_left fun a _ => ?_
    have := (sub_le h).2.1
    simp only [Function.comp]
    omega
theorem sub_par {t : T} {off k : Nat} {s : T} {p : Int} (h : Sub t off s k p) : (t.parOf.drop off).take s.size = s.par (off : Int) p := by
  induction h with
  | root => simp only [T.parOf]; rw [List.drop_zero, List.take_of_length_le (by rw [T.par_len]; omega)]; rfl
  | @left off k p l r h ih =>
    simp only [T.par] at ih
    have hl := T.par_len l (off : Int) ((off : Int) + l.size)
    have hr := T.par_len r ((off : Int) + l.size + 1) ((off : Int) + l.size)
    have := slice_left (a := l.par (off : Int) ((off : Int) + l.size)) (b := r.par ((off : Int) + l.size + 1) ((off : Int) + l.size)) (L := t.parOf) (off := off) (x := p) (by rw [hl, hr]; exact ih)
    rw [hl] at this
    rw [this, Int.natCast_add]
  | @right off k p l r h ih =>
    simp only [T.par] at ih
    have hl := T.par_len l (off : Int) ((off : Int) + l.size)
    have hr := T.par_len r ((off : Int) + l.size + 1) ((off : Int) + l.size)
    have := slice_right (a := l.par (off : Int) ((off : Int) + l.size)) (b := r.par ((off : Int) + l.size + 1) ((off : Int) + l.size)) (L := t.parOf) (off := off) (x := p) (by rw [hl, hr]; exact ih)
    rw [hl, hr] at this
    rw [this]
    simp only [Int.natCast_add]
    rfl
theorem sub_root {t : T} {off k : Nat} {l r : T} {p : Int} (h : Sub t off (.node l r) k p) : t.parOf[off + l.size]? = some p := by
  have ih := sub_par h
  simp only [T.par] at ih
  have hl := T.par_len l (off : Int) ((off : Int) + l.size)
  have hr := T.par_len r ((off : Int) + l.size + 1) ((off : Int) + l.size)
  have := slice_mid (a := l.par (off : Int) ((off : Int) + l.size)) (b := r.par ((off : Int) + l.size + 1) ((off : Int) + l.size)) (L := t.parOf) (off := off) (x := p) (by rw [hl, hr]; exact ih)
  rw [hl] at this
  exact this
/-- the parents of a subtree: the root's alone lies outside -/
theorem par_in : ∀ (s : T) (off p : Int) (i : Nat) (q : Int), (s.par off p)[i]? = some q → (∃ l r, s = .node l r ∧ i = l.size ∧ q = p) ∨ (off ≤ q ∧ q < off + s.size ∧ ∀ l r, s = .node l r → i ≠ l.size)
  | .nil, _, _, _, _, h => by simp [T.par] at h
  | .node l r, off, p, i, q, h => by
    simp only [T.par] at h
    have hl := T.par_len l off (off + l.size)
    by_cases h1 : i < l.size
    · rw [List.getElem?_append_left (by omega)] at h
      refine .inr ?_
      rcases par_in l off (off + l.size) i q h with ⟨a, b, e, e2, e3⟩ | ⟨h2, h3, _⟩
      · refine ⟨by omega, by simp only [T.size]; omega, fun l' r' e' => by cases e'; omega⟩
      · refine ⟨by omega, by simp only [T.size]; omega, fun l' r' e' => by cases e'; omega⟩
    · rw [List.getElem?_append_right (by omega), hl] at h
      by_cases h2 : i = l.size
      · subst h2
        rw [Nat.sub_self] at h
        have : p = q := by simpa using h
        exact .inl ⟨l, r, rfl, rfl, this.symm⟩
      · obtain ⟨j, e⟩ : ∃ j, i - l.size = j + 1 := ⟨i - l.size - 1, by omega⟩
        rw [e, List.getElem?_cons_succ] at h
        refine .inr ?_
        rcases par_in r (off + l.size + 1) (off + l.size) j q h with ⟨a, b, e4, e2, e3⟩ | ⟨h4, h3, _⟩
        · refine ⟨by omega, by simp only [T.size]; omega, fun l' r' e' => by cases e'; omega⟩
        · refine ⟨by omega, by simp only [T.size]; omega, fun l' r' e' => by cases e'; omega⟩
theorem rc_pos : ∀ (s : T) (i v : Nat), s.rc[i]? = some v → 1 ≤ v
  | .nil, _, _, h => by simp [T.rc] at h
  | .node l r, i, v, h => by
    simp only [T.rc] at h
    by_cases h1 : i < l.size
    · rw [List.getElem?_append_left (by rw [T.rc_len]; exact h1)] at h
      exact rc_pos l i v h
    · rw [List.getElem?_append_right (by rw [T.rc_len]; omega), T.rc_len] at h
      rcases Nat.eq_zero_or_pos (i - l.size) with e | e
      · rw [e] at h; simp at h; omega
      · obtain ⟨j, e⟩ : ∃ j, i - l.size = j + 1 := ⟨i - l.size - 1, by omega⟩
        rw [e, List.getElem?_cons_succ, List.getElem?_map] at h
        cases h2 : r.rc[j]? with
        | none => rw [h2] at h; cases h
        | some u => rw [h2] at h; simp at h; omega
theorem rc_one {l r : T} {i : Nat} (h : (T.node l r).rc[i]? = some 1) : i ≤ l.size := by
  simp only [T.rc] at h
  by_cases h1 : i ≤ l.size
  · exact h1
  · rw [List.getElem?_append_right (by rw [T.rc_len]; omega), T.rc_len] at h
    obtain ⟨j, e⟩ : ∃ j, i - l.size = j + 1 := ⟨i - l.size - 1, by omega⟩
    rw [e, List.getElem?_cons_succ, List.getElem?_map] at h
    cases h2 : r.rc[j]? with
    | none => rw [h2] at h; cases h
    | some u =>
      have := rc_pos r j u h2
      rw [h2] at h; simp at h; omega
theorem rc_root (l r : T) : (T.node l r).rc[l.size]? = some 1 := by
  simp only [T.rc]
  rw [List.getElem?_append_right (by rw [T.rc_len]; exact Nat.le_refl _), T.rc_len, Nat.sub_self]; rfl
theorem sub_rc_at {t : T} {off k : Nat} {s : T} {p : Int} (h : Sub t off s k p) {i : Nat} (hi : i < s.size) : ∃ v, s.rc[i]? = some v ∧ t.rc[off + i]? = some (v + (k - 1)) := by
  have e := congrArg (fun l : List Nat => l[i]?) (sub_rc h)
  simp only [List.getElem?_take, List.getElem?_drop, List.getElem?_map] at e
  rw [if_pos hi] at e
  have hv := List.getElem?_eq_getElem (show i < s.rc.length by rw [T.rc_len]; exact hi)
  rw [hv] at e
  exact ⟨_, hv, e⟩
theorem sub_par_at {t : T} {off k : Nat} {s : T} {p : Int} (h : Sub t off s k p) {i : Nat} (hi : i < s.size) : ∃ q, (s.par (off : Int) p)[i]? = some q ∧ t.parOf[off + i]? = some q := by
  have e := congrArg (fun l : List Int => l[i]?) (sub_par h)
  simp only [List.getElem?_take, List.getElem?_drop] at e
  rw [if_pos hi] at e
  have hv := List.getElem?_eq_getElem (show i < (s.par (off : Int) p).length by rw [T.par_len]; exact hi)
  rw [hv] at e
  exact ⟨_, hv, e⟩
theorem filter_one {f : Nat → Bool} {n c : Nat} (hc : c < n) (h1 : f c = true) (h2 : ∀ i, i < n → f i = true → i = c) : (List.range n).filter f = [c] := by
  induction n with
  | zero => omega
  | succ n ih =>
    rw [List.range_succ, List.filter_append]
    by_cases e : c = n
    · subst e
      have e0 : (List.range c).filter f = [] := List.filter_eq_nil_iff.mpr fun i hi hf => by
        have := List.mem_range.mp hi
        have := h2 i (by omega) hf
        omega
      rw [e0]; simp [h1]
    · rw [ih (by omega) fun i hi hf => h2 i (by omega) hf]
      have : f n = false := by
        cases hf : f n with
        | false => rfl
        | true => exact absurd (h2 n (by omega) hf) (by omega)
      simp [this]
/-- the work of a list of subtrees -/
def todo : List (Nat × T × Nat × Int) → Nat
  | [] => 0
  | x :: r => 2 * x.2.1.size + 1 + todo r
theorem todo_app : ∀ a b, todo (a ++ b) = todo a + todo b
  | [], b => by simp [todo]
  | x :: r, b => by simp [todo, todo_app r b]; omega
theorem len_todo : ∀ L, L.length ≤ todo L
  | [] => Nat.le_refl _
  | x :: r => by have := len_todo r; simp [todo]; omega

/-! ### one step up -/
theorem getD_app_l {a b : List Nat} {i : Nat} (h : i < a.length) : (a ++ b).getD i 0 = a.getD i 0 := by
  simp only [List.getD_eq_getElem?_getD, List.getElem?_append_left h]
theorem getD_app_r {a b : List Nat} {i : Nat} (h : a.length ≤ i) : (a ++ b).getD i 0 = b.getD (i - a.length) 0 := by
  simp only [List.getD_eq_getElem?_getD, List.getElem?_append_right h]
theorem getD_map1 {a : List Nat} {i : Nat} (h : i < a.length) : (a.map (· + 1)).getD i 0 = a.getD i 0 + 1 := by
  simp only [List.getD_eq_getElem?_getD, List.getElem?_map, List.getElem?_eq_getElem h]; rfl
theorem wr_l {l r : T} {i : Nat} (h : i < l.size) : (T.node l r).wr.getD i 0 = l.wr.getD i 0 + 1 := by
  simp only [T.wr]
  rw [getD_app_l (by rw [List.length_map, T.wr_len]; exact h), getD_map1 (by rw [T.wr_len]; exact h)]
theorem wr_m {l r : T} : (T.node l r).wr.getD l.size 0 = 1 := by
  simp only [T.wr]
  rw [getD_app_r (by rw [List.length_map, T.wr_len]; exact Nat.le_refl _), List.length_map, T.wr_len, Nat.sub_self]; rfl
theorem wr_r {l r : T} {j : Nat} : (T.node l r).wr.getD (l.size + 1 + j) 0 = r.wr.getD j 0 := by
  simp only [T.wr]
  rw [getD_app_r (by rw [List.length_map, T.wr_len]; omega), List.length_map, T.wr_len, show l.size + 1 + j - l.size = j + 1 by omega, List.getD_cons_succ]
theorem rc_l {l r : T} {i : Nat} (h : i < l.size) : (T.node l r).rc.getD i 0 = l.rc.getD i 0 := by
  simp only [T.rc]
  rw [getD_app_l (by rw [T.rc_len]; exact h)]
theorem rc_m {l r : T} : (T.node l r).rc.getD l.size 0 = 1 := by
  simp only [T.rc]
  rw [getD_app_r (by rw [T.rc_len]; exact Nat.le_refl _), T.rc_len, Nat.sub_self]; rfl
theorem rc_r {l r : T} {j : Nat} (h : j < r.size) : (T.node l r).rc.getD (l.size + 1 + j) 0 = r.rc.getD j 0 + 1 := by
  simp only [T.rc]
  rw [getD_app_r (by rw [T.rc_len]; omega), T.rc_len, show l.size + 1 + j - l.size = j + 1 by omega, List.getD_cons_succ, getD_map1 (by rw [T.rc_len]; exact h)]
theorem up : ∀ (s : T) (off p : Int) (i : Nat) (q : Int), (s.par off p)[i]? = some q →
    (q = p ∧ s.wr.getD i 0 = 1 ∧ s.rc.getD i 0 = 1) ∨
    ∃ j : Nat, q = off + j ∧ j < s.size ∧ j ≠ i ∧ (i < j → s.wr.getD i 0 = s.wr.getD j 0 + 1 ∧ s.rc.getD i 0 = s.rc.getD j 0) ∧ (j < i → s.wr.getD i 0 = s.wr.getD j 0 ∧ s.rc.getD i 0 = s.rc.getD j 0 + 1)
  | .nil, _, _, _, _, h => by simp [T.par] at h
  | .node l r, off, p, i, q, h => by
    simp only [T.par] at h
    have hl := T.par_len l off (off + l.size)
    by_cases h1 : i < l.size
    · rw [List.getElem?_append_left (by omega)] at h
      refine .inr ?_
      rcases up l off (off + l.size) i q h with ⟨e, e1, e2⟩ | ⟨j, e, hj, hne, c1, c2⟩
      · exact ⟨l.size, e, by simp only [T.size]; omega, by omega, fun _ => ⟨by rw [wr_l h1, wr_m, e1], by rw [rc_l h1, rc_m, e2]⟩, fun z => by omega⟩
      · exact ⟨j, e, by simp only [T.size]; omega, hne, fun z => ⟨by rw [wr_l h1, wr_l hj, (c1 z).1], by rw [rc_l h1, rc_l hj, (c1 z).2]⟩, fun z => ⟨by rw [wr_l h1, wr_l hj, (c2 z).1], by rw [rc_l h1, rc_l hj, (c2 z).2]⟩⟩
    · rw [List.getElem?_append_right (by omega), hl] at h
      by_cases h2 : i = l.size
      · subst h2
        rw [Nat.sub_self] at h
        have : p = q := by simpa using h
        exact .inl ⟨this.symm, wr_m, rc_m⟩
      · obtain ⟨k, e⟩ : ∃ k, i = l.size + 1 + k := ⟨i - l.size - 1, by omega⟩
        subst e
        rw [show l.size + 1 + k - l.size = k + 1 by omega, List.getElem?_cons_succ] at h
        have hk : k < r.size := by
          have := (List.getElem?_eq_some_iff.mp h).1
          rw [T.par_len] at this; exact this
        refine .inr ?_
        rcases up r (off + l.size + 1) (off + l.size) k q h with ⟨e, e1, e2⟩ | ⟨j, e, hj, hne, c1, c2⟩
        · exact ⟨l.size, e, by simp only [T.size]; omega, by omega, fun z => by omega, fun _ => ⟨by rw [wr_r, wr_m, e1], by rw [rc_r hk, rc_m, e2]⟩⟩
        · exact ⟨l.size + 1 + j, by rw [e]; omega, by simp only [T.size]; omega, by omega, fun z => ⟨by rw [wr_r, wr_r, (c1 (by omega)).1], by rw [rc_r hk, rc_r hj, (c1 (by omega)).2]⟩, fun z => ⟨by rw [wr_r, wr_r, (c2 (by omega)).1], by rw [rc_r hk, rc_r hj, (c2 (by omega)).2]⟩⟩
theorem wr_pos {t : T} {i : Nat} (h : i < t.size) : 1 ≤ t.wr.getD i 0 := by
  induction t generalizing i with
  | nil => simp [T.size] at h
  | node l r ihl ihr =>
    by_cases h1 : i < l.size
    · rw [wr_l h1]; omega
    · by_cases h2 : i = l.size
      · subst h2; rw [wr_m]; exact Nat.le_refl _
      · obtain ⟨k, e⟩ : ∃ k, i = l.size + 1 + k := ⟨i - l.size - 1, by omega⟩
        subst e
        rw [wr_r]; exact ihr (by simp only [T.size] at h; omega)
theorem rc_posD {t : T} {i : Nat} (h : i < t.size) : 1 ≤ t.rc.getD i 0 := by
  have := List.getElem?_eq_getElem (show i < t.rc.length by rw [T.rc_len]; exact h)
  rw [List.getD_eq_getElem?_getD, this]
  exact rc_pos t i _ this

/-! ### mirrors -/
def mirN (N : Int) (q : Int) : Int := if q = -1 then -1 else N - 1 - q
theorem mir_size : ∀ t : T, t.mir.size = t.size
  | .nil => rfl
  | .node l r => by simp [T.mir, T.size, mir_size l, mir_size r]; omega
theorem mir_par : ∀ (s : T) (N off p : Int), 0 ≤ off → ((s.par off p).reverse).map (mirN N) = s.mir.par (N - off - s.size) (mirN N p)
  | .nil, _, _, _, _ => rfl
  | .node l r, N, off, p, h => by
    simp only [T.par, T.mir, List.reverse_append, List.reverse_cons, List.map_append, List.map_cons, List.map_nil]
    rw [mir_par l N off (off + l.size) h, mir_par r N (off + l.size + 1) (off + l.size) (by omega), mir_size]
    have e1 : mirN N (off + l.size) = N - 1 - (off + l.size) := by unfold mirN; rw [if_neg (by omega)]
    rw [e1]
    have e2 : N - off - ((T.node l r).size : Int) = N - (off + l.size + 1) - r.size := by simp only [T.size]; omega
    rw [e2]
    have e3 : N - (off + ↑l.size + 1) - ↑r.size + ↑r.size = N - 1 - (off + ↑l.size) := by omega
    rw [e3, show N - 1 - (off + (l.size : Int)) + 1 = N - off - l.size by omega]
    simp
theorem mir_parOf (t : T) : t.mir.parOf = (t.parOf.reverse).map (mirN t.size) := by
  unfold T.parOf
  rw [mir_par t t.size 0 (-1) (by omega)]
  rw [show ((t.size : Int) - 0 - t.size) = 0 by omega]
  rfl
theorem mir_wr : ∀ t : T, t.mir.wr = t.rc.reverse
  | .nil => rfl
  | .node l r => by simp [T.mir, T.wr, T.rc, mir_wr l, mir_wr r]
theorem mir_rc : ∀ t : T, t.mir.rc = t.wr.reverse
  | .nil => rfl
  | .node l r => by simp [T.mir, T.wr, T.rc, mir_rc l, mir_rc r]
theorem mir_mir : ∀ t : T, t.mir.mir = t
  | .nil => rfl
  | .node l r => by simp [T.mir, mir_mir l, mir_mir r]

/-! ### parents of a joined tree -/
theorem par_below {N : Int} : ∀ (s : T) (off p : Int), 0 ≤ off → (s.par off p).map (fun q => if q = -1 then N else q) = s.par off (if p = -1 then N else p)
  | .nil, _, _, _ => rfl
  | .node l r, off, p, h => by
    simp only [T.par, List.map_append, List.map_cons]
    rw [par_below l off _ h, par_below r (off + l.size + 1) _ (by omega), if_neg (by omega : ¬ off + (l.size : Int) = -1)]
theorem par_beyond {N : Int} : ∀ (s : T) (off p : Int), 0 ≤ off → (s.par off p).map (fun q => if q = -1 then N else q + N + 1) = s.par (off + N + 1) (if p = -1 then N else p + N + 1)
  | .nil, _, _, _ => rfl
  | .node l r, off, p, h => by
    simp only [T.par, List.map_append, List.map_cons]
    rw [par_beyond l off _ h, par_beyond r (off + l.size + 1) _ (by omega), if_neg (by omega : ¬ off + (l.size : Int) = -1)]
    have e1 : off + (l.size : Int) + N + 1 = off + N + 1 + l.size := by omega
    have e2 : off + (l.size : Int) + 1 + N + 1 = off + N + 1 + l.size + 1 := by omega
    rw [e1, e2]
theorem parOf_node (s u : T) : (T.node s u).parOf = s.parOf.map (fun q => if q = -1 then (s.size : Int) else q) ++ [-1] ++ u.parOf.map (fun q => if q = -1 then (s.size : Int) else q + s.size + 1) := by
  unfold T.parOf
  rw [par_below s 0 (-1) (by omega), par_beyond u 0 (-1) (by omega)]
  simp only [T.par]
  simp
theorem parOf_root (s u : T) : (T.node s u).parOf[s.size]? = some (-1) := by
  have := sub_root (t := T.node s u) .root
  simpa using this
theorem parOf_first {s u : T} {m : Nat} (h : m < s.size) : (T.node s u).parOf[m]? ≠ some (-1) := fun e => by
  rcases par_in _ _ _ _ _ e with ⟨l, r, e1, e2, _⟩ | ⟨h1, _, _⟩
  · cases e1; omega
  · omega

/-! ### runs as lists of flushes -/
theorem stk_pair : ∀ (t : T) (off j : Nat), j + 1 ≤ t.runs → (t.stk off)[t.runs - (j + 1)]? = some (off + t.start (j + 1), off + t.start j)
  | .nil, _, _, h => by simp [T.runs] at h
  | .node l r, off, j, h => by
    by_cases e : j = r.runs
    · subst e
      have e1 : (T.node l r).runs = r.runs + 1 := by simp [T.runs]; omega
      rw [e1, Nat.sub_self, ← e1, T.start_eq, T.start_node (Nat.le_refl _), T.start_eq]
      rfl
    · have h1 : j + 1 ≤ r.runs := by simp [T.runs] at h; omega
      have e1 : (T.node l r).runs - (j + 1) = (r.runs - (j + 1)) + 1 := by simp [T.runs]; omega
      rw [e1, T.start_node h1, T.start_node (by omega)]
      simp only [T.stk, List.getElem?_cons_succ]
      rw [stk_pair r (off + l.size + 1) j h1]
      congr 2 <;> omega
theorem start_anti : ∀ (t : T) (j : Nat), j + 1 ≤ t.runs → t.start (j + 1) < t.start j
  | .nil, _, h => by simp [T.runs] at h
  | .node l r, j, h => by
    by_cases e : j = r.runs
    · subst e
      have e1 : (T.node l r).runs = r.runs + 1 := by simp [T.runs]; omega
      rw [← e1, T.start_eq, T.start_node (Nat.le_refl _), T.start_eq]
      omega
    · have h1 : j + 1 ≤ r.runs := by simp [T.runs] at h; omega
      rw [T.start_node h1, T.start_node (by omega)]
      have := start_anti r j h1
      omega
/-- the flushes of [a, b) -/
def seg (a b : Nat) : List Nat := List.range' a (b - a)
theorem seg_app {a b c : Nat} (h1 : a ≤ b) (h2 : b ≤ c) : seg a b ++ seg b c = seg a c := by
  unfold seg
  have := List.range'_append_1 (s := a) (m := b - a) (n := c - b)
  rw [show a + (b - a) = b by omega, show b - a + (c - b) = c - a by omega] at this
  exact this
theorem seg_one (a : Nat) : seg a (a + 1) = [a] := by
  unfold seg
  rw [show a + 1 - a = 1 by omega]; rfl
theorem seg_nil (a : Nat) : seg a a = [] := by unfold seg; rw [Nat.sub_self]; rfl
theorem seg_len (a b : Nat) : (seg a b).length = b - a := by unfold seg; rw [List.length_range']
theorem seg_at {a b k : Nat} (h : a + k < b) : (seg a b)[k]? = some (a + k) := by
  unfold seg
  rw [List.getElem?_range' (by omega)]
  simp
theorem stk_take_succ {t : T} {j : Nat} (off : Nat) (h : j + 1 ≤ t.runs) : (t.stk off).take (t.runs - j) = (t.stk off).take (t.runs - (j + 1)) ++ [(off + t.start (j + 1), off + t.start j)] := by
  rw [show t.runs - j = (t.runs - (j + 1)) + 1 by omega, List.take_add_one, stk_pair t off j h]; rfl
/-- adjacent, from off on -/
theorem stk_starts : ∀ (t : T) (off : Nat), (t.stk off).map (·.1) = (off :: (t.stk off).map (·.2)).dropLast
  | .nil, _ => rfl
  | .node l r, off => by
    have ih := stk_starts r (off + l.size + 1)
    simp only [T.stk, List.map_cons]
    rw [ih]; rfl
theorem stk_stops : ∀ (t : T) (off : Nat), (off :: (t.stk off).map (·.2)).getLast? = some (off + t.size)
  | .nil, off => by simp [T.stk, T.size]
  | .node l r, off => by
    have ih := stk_stops r (off + l.size + 1)
    simp only [T.stk, List.map_cons, T.size]
    rw [List.getLast?_cons_cons, ih]
    congr 1; omega
theorem stk_lt : ∀ (t : T) (off : Nat) (p : Nat × Nat), p ∈ t.stk off → off ≤ p.1 ∧ p.1 < p.2 ∧ p.2 ≤ off + t.size
  | .nil, _, _, h => by simp [T.stk] at h
  | .node l r, off, p, h => by
    simp only [T.stk] at h
    rcases List.mem_cons.mp h with rfl | h
    · simp only [T.size]; omega
    · have := stk_lt r _ p h
      simp only [T.size]; omega
end MB

set_option maxHeartbeats 4000000
namespace MB
open PySem PySem.Spec PyProof.Rows L2

/-! ### great powers -/
def CPowW (i j : Int) : Prop := 0 ≤ j ∧ (Builtin.Int.intBits i : Int) * j ≤ 2 ^ 27
theorem op_powW {X : Cx} : OpR X (binaryOp .Pow) (rI CPowW fun i j => .int (i ^ j.toNat)) := opI fun _ _ _ _ _ _ _ hc q => pow_int hc.1 hc.2 q

/-! ### xs[i] op= e -/
theorem get_list {X : Cx} : PGet X (rIxL X.K) := by
  intro pins s σ H x y v u Q I rx ry h
  obtain ⟨p, xs, i, z, rfl, rfl, hq, he, q⟩ := h
  cases rx
  obtain ⟨t, rfl⟩ := ry
  obtain ⟨its, r, pl, hz⟩ := I.list hq
  obtain ⟨j, h1, h2, h3, h4, h5⟩ := atI_get he
  obtain ⟨w, ew, rw'⟩ := r.get h2
  have hl := r.length
  have hn := line63
  have fin : EP X pins σ Q w s := ⟨z, H, I, rw', q⟩
  by_cases h0 : 0 ≤ i
  · have hj : i.toNat = j := by
      rw [seqIndex_of h0 h5] at h1
      exact Option.some.inj h1
    exact getItem_listL pl.isList h0 (by omega) (by rw [hj]; exact ew) fin
  · have hj : (i + (its.toArray.size : Int)).toNat = j := by
      rw [seqIndex_neg (by omega) h4] at h1
      rw [List.size_toArray, ← hl]
      exact Option.some.inj h1
    exact wpAny_getItem_list_neg pl.isList (by omega) (by rw [List.size_toArray] <;> omega) (by omega) (by rw [hj]; simpa using ew) fin

/-! ### sum of a tuple of ints -/
theorem ints_at : ∀ {ns : List Int} {its : List Value}, Vals (ns.map V.int) its → ∀ (i : Nat) (v : Value), its[i]? = some v → ∃ t, v = .int (ns.getD i 0) t
  | [], _, .nil, i, v, h => by simp at h
  | n :: ns, u :: us, .cons r rr, 0, v, h => by
    obtain ⟨t, rfl⟩ := r
    simp at h
    exact ⟨t, by simp [h]⟩
  | n :: ns, u :: us, .cons r rr, i + 1, v, h => by
    have := ints_at rr i v (by simpa using h)
    simpa using this
theorem preSum_getD (ns : List Int) : ∀ k, k ≤ ns.length → preSum (fun i => ns.getD i 0) k = (ns.take k).sum
  | 0, _ => by simp [preSum]
  | k + 1, h => by
    have e : ns[k]? = some (ns.getD k 0) := by
      rw [List.getElem?_eq_getElem (by omega), List.getD_eq_getElem?_getD, List.getElem?_eq_getElem (by omega)]
      rfl
    rw [preSum, preSum_getD ns k (by omega), L2.sum_take e]
def rSumT (K : PySem.W.Frag) : List V → Hp → VK → Prop := fun xs H Q => ∃ (a : Addr) (ns : List Int), xs = [V.ref a] ∧ SqT K H a (ns.map V.int) ∧ Q (.int ns.sum) H
theorem cr_sumT {X : Cx} (hc : X.calm = true) : CallR X (.builtin "sum") (rSumT X.K) := by
  intro pins s σ H vs us Q I r h
  obtain ⟨a, ns, rfl, hs, q⟩ := h
  obtain ⟨its, rv, hl, _⟩ := I.tuple hs
  rw [Vals.ref1 r]
  have hT : s.heap.IsTuple a its.toArray := hl
  have hlt : a < s.heap.objs.size := by obtain ⟨_, e, _⟩ := hl; exact Heap.lt_size e
  refine PySem.call_sum_walkG (wpAny_pyIter_tuple hT ?_)
  refine ⟨s.heap.objs.size, [s.heap.objs.size, a], [s.heap.objs.size], its.toArray.size, _, _, fun i => ns.getD i 0, rfl, Walks.tuple (A := X.A.in1) (I.ok.hd hc) _ a (Nat.ne_of_lt hlt) its.toArray, ⟨⟨_, Heap.get?_push_size _ rfl, rfl, rfl⟩, hT.at fun o e => Heap.get?_push_of_some _ e⟩, fun b hb => ?_, fun i v hv => ints_at rv i v (by simpa using hv), fun h' tk t' hk => ?_⟩
  · show b < (s.heap.push _).objs.size
    rw [Heap.size_push]
    have e : b = s.heap.objs.size ∨ b = a := by simpa using hb
    rcases e with e | e
    · rw [e]; exact Nat.lt_succ_self _
    · rw [e]; exact Nat.lt_succ_of_lt hlt
  · have el : its.toArray.size = ns.length := by rw [List.size_toArray, ← rv.length, List.length_map]
    rw [el, preSum_getD ns _ (Nat.le_refl _), List.take_length]
    refine ⟨.int ns.sum, H, I.kept fun b o e => hk b o ?_ (Heap.get?_push_of_some _ e), ⟨_, rfl⟩, q⟩
    have := Heap.lt_size e
    simp only [List.mem_singleton]
    exact Nat.ne_of_lt this

/-! ### enumerate(tuple) -/
set_option maxHeartbeats 4000000 in
theorem meets_enumerate_newT (l : Addr) (items : Array Value) (n : Nat) (dct : Option Addr) (sl : Array (Option Value)) :
    Meets (Builtin.«enumerate.__new__» ⟨[.type "enumerate", .ref l], []⟩) (fun _ R s => s.heap.get? l = some { cls := .type "tuple", dict := dct, data := .seq items n, slots := sl } ∧
      R (.ok (.ret (.ref (s.heap.push { cls := .type "tuple_iterator", data := .fields #[.ref l, .int 0 0] }).objs.size)))
        { s with heap := (s.heap.push { cls := .type "tuple_iterator", data := .fields #[.ref l, .int 0 0] }).push { cls := .type "enumerate", data := .fields #[.none, .bool false, .ref s.heap.objs.size, rawInt 0, .none, .none] } }) :=
  .of_wp fun prog w A R s h => by
    obtain ⟨hp, g, d, tk, os⟩ := s; obtain ⟨hl, h⟩ := h
    have hsub := sub_enumerate
    have hL : Heap.IsTuple (Shared.heap ⟨hp, g, d, tk, os⟩) l items := ⟨_, hl, rfl, n, rfl⟩
    wp_walk using AutoSeq1.wpAny_loadPart' hl
    refine wpAny_stack_any fun st => wpAny_pure ?_
    split
    · rename_i c _ _ _ _ _
      cases (c == Value.type "enumerate")
      · wp_walk using AutoSeq1.wpAny_loadPart' hl, wpAny_pyIter_tuple hL
        exact ⟨_, rfl, h⟩
      · wp_walk using AutoSeq1.wpAny_loadPart' hl, wpAny_pyIter_tuple hL
        exact ⟨_, rfl, h⟩
    · wp_walk using AutoSeq1.wpAny_loadPart' hl, wpAny_pyIter_tuple hL
      exact ⟨_, rfl, h⟩
section
variable {prog : Program} {w : World} {A : Around} {E : Value → Shared → Prop} {s : Shared}
theorem call_enumerate_tuple {l : Addr} {items : Array Value} {Q : Value → Shared → Prop} (hL : s.heap.IsTuple l items)
    (h : ∀ h', IsEnum h' (s.heap.objs.size + 1) s.heap.objs.size 0 .none → h'.IsTupleIter s.heap.objs.size l 0 → h'.objs.size = s.heap.objs.size + 2 →
      (∀ b o, s.heap.get? b = some o → h'.get? b = some o) → Q (.ref (s.heap.objs.size + 1)) { s with heap := h' }) :
    wpAny (model prog w) A (call (.type "enumerate") [.ref l]) Q E s := by
  obtain ⟨⟨c, dct, dt, sl⟩, hl, hc, n, hd⟩ := hL
  replace hc : c = .type "tuple" := hc
  replace hd : dt = .seq items n := hd
  subst hc hd
  refine callType_new F.called_enumerate (by decide) (F.typeCall_enumerate_1 _) (F.newCall_enumerate_1 _) (fun obj => F.args_object_init_2 obj _) F.entry_enumerate_new
    (meets_enumerate_newT l items n dct sl) ⟨hl, ?_⟩
  have hz : (s.heap.push { cls := .type "tuple_iterator", data := .fields #[.ref l, .int 0 0] }).objs.size = s.heap.objs.size + 1 := Heap.size_push ..
  show _ ∧ _
  rw [hz]
  have he : IsEnum ((s.heap.push { cls := .type "tuple_iterator", data := .fields #[.ref l, .int 0 0] }).push
      { cls := .type "enumerate", data := .fields #[.none, .bool false, .ref s.heap.objs.size, rawInt 0, .none, .none] }) (s.heap.objs.size + 1) s.heap.objs.size 0 .none := by
    have := Heap.get?_push_size (s.heap.push { cls := .type "tuple_iterator", data := .fields #[.ref l, .int 0 0] })
      (o := { cls := .type "enumerate", data := .fields #[.none, .bool false, .ref s.heap.objs.size, rawInt 0, .none, .none] }) rfl
    rw [hz] at this; exact this
  refine ⟨⟨_, he, rfl⟩, h _ he ⟨_, Heap.get?_push_of_some _ (Heap.get?_push_size _ rfl), rfl, rfl⟩ (by rw [Heap.size_push, hz]) fun b o x => Heap.get?_push_of_some _ (Heap.get?_push_of_some _ x)⟩
end
def IteT (K : PySem.W.Frag) (a : Addr) : It :=
  ⟨fun i H => ∃ (xs : List V) (x : V), SqT K H a xs ∧ xs[i]? = some x, fun i H v H' => ∃ T x, v = .ref T ∧ H T = none ∧ H' = upd H T (.tup [.int (i : Nat), x]) ∧ ∀ xs, SqT K H a xs → xs[i]? = some x, fun i H => ∃ xs : List V, SqT K H a xs ∧ xs.length = i⟩
theorem tup_ne {h : Heap} {a it : Addr} {items : Array Value} {i : Nat} (h1 : h.IsTuple a items) (h2 : h.IsTupleIter it a i) : a ≠ it := fun e => by
  obtain ⟨o, ho, hc, n, hd⟩ := h1
  obtain ⟨o', ho', hc', hd'⟩ := h2
  rw [e] at ho
  rw [ho] at ho'
  cases ho'
  rw [hd] at hd'
  cases hd'
theorem turn_enumT {P : Program} {w : World} {K : PySem.W.Frag} {elts : List Expr} {kk : Nat} {tpos : Pos} (a e it : Addr) (hae : a ≠ e) :
    Turn P w K (.Tuple elts kk tpos) (IteT K a) [e, it] e (fun i h => (∃ old, IsEnum h e it ((i : Nat) : Int) old) ∧ h.IsTupleIter it a i ∧ e ≠ it) where
  mem := by simp
  obj := fun i h st b hb => by
    obtain ⟨⟨old, he⟩, ⟨o, ho, hc, hd⟩, _⟩ := st
    have e' : b = e ∨ b = it := by simpa using hb
    rcases e' with z | z
    · rw [z]; exact ⟨_, he, fun v q => nomatch q⟩
    · rw [z]; exact ⟨o, ho, fun v q => by rw [hd] at q; cases q⟩
  keep := fun i h h' st k => let ⟨⟨old, he⟩, hi, hne⟩ := st; ⟨⟨old, k e (by simp) _ he⟩, hi.at fun o q => k it (by simp) o q, hne⟩
  item := by
    intro X hP hw hK hc i pins s σ H E I hf st hg
    subst hP hw hK
    obtain ⟨⟨old, he⟩, hit, hne⟩ := st
    obtain ⟨xs, x, hq, hx⟩ := hg
    obtain ⟨its, rv, p, hz⟩ := I.tuple hq
    have p : s.heap.IsTuple a its.toArray := p
    have hat : a ≠ it := tup_ne p hit
    have hel : e < s.heap.objs.size := Heap.lt_size he
    have hil : it < s.heap.objs.size := by obtain ⟨_, q, _⟩ := hit; exact Heap.lt_size q
    have hlen : i < its.toArray.size := by
      rw [List.size_toArray, ← rv.length]; exact (List.getElem?_eq_some_iff.mp hx).1
    refine wpAny_pyNext_enum_itemD (Draws.tuple (prog := X.prog) (w := X.w) (A := X.A.in1) (I.ok.hd hc) it a hat its.toArray) he ⟨hit, p⟩ hlen hne (by simp; exact ⟨hne, fun z => hae z.symm⟩) fun u h' tk hu ho hit' hT hsz hk => ?_
    obtain ⟨u', hu', ru'⟩ := rv.get hx
    have eu : u = u' := by
      have h1 : its[i]? = some u := by simpa using hu
      rw [h1] at hu'; exact Option.some.inj hu'
    subst eu
    refine ⟨_, rfl, wpAny_letOwnedTupleGo_enum (s := { s with heap := h', toks := tk + 1 }) ho fun h'' he' sb => ?_⟩
    have hT2 : h''.get? s.heap.objs.size = some { cls := .type "tuple", data := .seq #[.int i tk, u] } := (sb.2 _ (Nat.ne_of_gt hel)).trans hT
    have new : ObjOk X.prog X.w (upd H s.heap.objs.size (.tup [.int (i : Nat), x])) h'' s.heap.objs.size (.tup [.int (i : Nat), x]) :=
      ⟨by show 2 ≤ sizeLine; decide, [.int i tk, u], .cons ⟨_, rfl⟩ (.cons ru' .nil), ⟨_, hT2, rfl, _, rfl⟩⟩
    have I1 : Inv X pins σ (upd H s.heap.objs.size (.tup [.int (i : Nat), x])) { s with heap := h'', toks := tk + 1 } :=
      I.turnedNew (ch := [e, it]) (fun b ob hb q => (sb.2 b (fun z => hb (by simp [z]))).trans (hk b ob (fun z => hb (by simp [z])) (fun z => hb (by simp [z])) q)) hf (Nat.le_refl _) new
    refine ⟨.ref s.heap.objs.size, _, I1, rfl, ⟨_, x, rfl, I.hok.fresh (Nat.le_refl _), rfl, fun ys hy => by rw [I.tuple_inj hy hq]; exact hx⟩, ⟨⟨u, ?_⟩, hit'.1.at fun o q => (sb.2 it (Ne.symm hne)).trans q, hne⟩, fun b hb => ?_⟩
    · have e1 : ((i + 1 : Nat) : Int) = (i : Int) + 1 := by omega
      rw [e1]; exact he'
    · have hb' : b < s.heap.objs.size := by
        have e' : b = e ∨ b = it := by simpa using hb
        rcases e' with z | z
        · rw [z]; exact hel
        · rw [z]; exact hil
      rw [upd_ne (Nat.ne_of_lt hb')]
      exact (hf b hb).1
  done := by
    intro X hP hw hK hc i pins s σ H E I hf st hg
    subst hP hw hK
    obtain ⟨⟨old, he⟩, hit, hne⟩ := st
    obtain ⟨xs, hq, hx⟩ := hg
    obtain ⟨its, rv, p, hz⟩ := I.tuple hq
    have p : s.heap.IsTuple a its.toArray := p
    have hat : a ≠ it := tup_ne p hit
    obtain ⟨f0, f1, f2, f3, f4, f5⟩ := hf it (by simp)
    have hlen : its.toArray.size = i := by rw [List.size_toArray, ← rv.length, hx]
    refine wpAny_pyNext_enum_endD (Draws.tuple (prog := X.prog) (w := X.w) (A := X.A.in1) (I.ok.hd hc) it a hat its.toArray) he ?_ fun h' eb => ⟨rfl, I.turned (t' := s.toks) (fun b o hb q => eb b o hb q) f0 f1 f3 f4 f5⟩
    rw [hlen]
    exact ⟨hit, p⟩
  self := fun A i s Q E st h => let ⟨⟨_, he⟩, _⟩ := st; wpAny_pyIter_enum he h
def iEnumT (K : PySem.W.Frag) (ta : TA) : TI := fun σ H R => ta σ H fun vs H1 => ∃ a xs, vs = [.ref a] ∧ SqT K H1 a xs ∧ R (IteT K a) H1
theorem pi_enumT {X : Cx} {e : Expr} {ta : TA} {p pos tpos : Pos} {elts : List Expr} {kk : Nat} (hg : Gl X "enumerate") (hm : X.mg "enumerate" = none) (ha : PA X [e] ta) (hs : starEach [e] X.env = [(false, eval e X.env)] := by rfl) :
    PI X (.Tuple elts kk tpos) (.Call (.Name "enumerate" p) [e] [] pos) (iEnumT X.K ta) := by
  refine ⟨fun pins s σ H R I h => ?_⟩
  refine Call_ (ld_blt I hg hm boot_enumerate (PyProof.Rows.callWith_type1 (thn (ha.run pos pins s σ H _ I h) fun us s1 ⟨vs, H1, I1, r1, q1⟩ => ?_) hs rfl))
  obtain ⟨a, xs, ex, hq, q⟩ := q1
  subst ex
  cases r1 with
  | cons r rr =>
    cases rr
    cases r
    obtain ⟨its, rv, p', hz⟩ := I1.tuple hq
    have hlt : a < s1.heap.objs.size := by obtain ⟨_, e, _⟩ := p'; exact Heap.lt_size e
    refine call_enumerate_tuple p' fun h' he hit hsz hk => wpAny_pyIter_enum he ?_
    have I2 : Inv X pins σ H1 { s1 with heap := h' } := I1.kept (t' := s1.toks) hk
    refine ⟨s1.heap.objs.size + 1, [s1.heap.objs.size + 1, s1.heap.objs.size], _, _, H1, rfl, I2, turn_enumT a (s1.heap.objs.size + 1) s1.heap.objs.size (Nat.ne_of_lt (Nat.lt_succ_of_lt hlt)), ⟨⟨.none, he⟩, hit, Nat.succ_ne_self _⟩, fun b hb => ?_, q⟩
    have e' : b = s1.heap.objs.size + 1 ∨ b = s1.heap.objs.size := by simpa using hb
    have hle : s1.heap.objs.size ≤ b := by
      rcases e' with z | z
      · rw [z]; exact Nat.le_add_right _ _
      · rw [z]; exact Nat.le_refl _
    exact I1.fpOk hle (I1.hok.fresh hle)
theorem walk_enumT {K : PySem.W.Frag} {a : Addr} {xs : List V} : Walk (IteT K a) xs.length (fun H => SqT K H a xs) (YPair (fun i => some (.int (i : Nat))) (fun i => xs[i]?)) := by
  refine ⟨fun i H hi hG => ⟨xs, xs[i], hG, List.getElem?_eq_getElem hi⟩, fun H hG => ⟨xs, hG, rfl⟩, fun i H x H' hi hG y => ?_⟩
  obtain ⟨T, x, e1, e2, e3, e4⟩ := y
  exact ⟨T, _, x, e1, e2, e3, rfl, e4 xs hG⟩

/-! ### tuple.index of an int -/
theorem flat_ints (ns : List Int) : (ns.map V.int).all flatV = true := by
  rw [List.all_map]
  exact List.all_eq_true.mpr fun _ _ => rfl
theorem mt_tindex {X : Cx} : MtR X "tuple.index" (fun x xs H Q => ∃ p, ∃ ys : List Int, ∃ z j, x = .ref p ∧ xs = [.int z] ∧ SqT X.K H p (ys.map V.int) ∧ ys[j]? = some z ∧ (∀ m, m < j → ys[m]? ≠ some z) ∧ Q (.int (j : Nat)) H) := by
  intro pins s σ H x xs v us Q I rx rs h
  obtain ⟨p, ys, z, j, rfl, rfl, hq, hy, hno, q⟩ := h
  cases rx
  obtain ⟨u, rfl, t, rfl⟩ := vals1 rs
  obtain ⟨its, r, pl, hz⟩ := I.tuple hq
  obtain ⟨⟨cls, dd, dt, sl⟩, ho, hc, n, hd⟩ := pl
  simp only at hc hd
  subst hc
  subst hd
  have hl : its.toArray.size = ys.length := by rw [List.size_toArray, ← r.length, List.length_map]
  have hj : j < its.toArray.size := by rw [hl]; exact (List.getElem?_eq_some_iff.mp hy).1
  have at' : ∀ (m : Nat) (hm : m < its.toArray.size), ∃ y t', ys[m]? = some y ∧ its.toArray[m] = Value.int y t' := fun m hm => by
    have hm' : m < ys.length := by rw [← hl]; exact hm
    obtain ⟨w, hw, t', hw'⟩ := r.get (i := m) (x := .int ys[m]) (by simp [hm'])
    refine ⟨ys[m], t', List.getElem?_eq_getElem hm', ?_⟩
    have e := (List.getElem?_eq_some_iff.mp hw).2
    rw [← hw', ← e]
    simp
  refine call_meets PySem.F.slot_tuple_index ⟨_, ho, rfl⟩ PySem.F.entry_tuple_index (PySem.F.args_tuple_index_2 _ _) (TI.tuple_indexAt p its.toArray n dd sl (.int z t) (eqU (.int z)) j hj ?_ ?_)
    ⟨ho, fun w hw => mem_eqAt (x := .int z) ⟨t, rfl⟩ rfl r (flat_ints ys) w (by simpa using hw), ⟨.int (j : Nat), H, I.tok _, ⟨_, rfl⟩, q⟩⟩
  · obtain ⟨y, t', h1, h2⟩ := at' j hj
    rw [hy] at h1
    cases h1
    rw [h2]
    show (z == z) = true
    exact beq_self_eq_true z
  · intro m hm hmj
    obtain ⟨y, t', h1, h2⟩ := at' m hm
    rw [h2]
    show (y == z) = false
    exact beq_eq_false_iff_ne.mpr fun e => hno m hmj (e ▸ h1)

/-! ### rules by the written part K itself (for a comprehension's block) -/
def rLen (K : PySem.W.Frag) : List V → Hp → VK → Prop := fun xs H Q => ∃ p ys, xs = [.ref p] ∧ (SqL K H p ys ∨ SqT K H p ys) ∧ Q (.int ys.length) H
def rTupOf (K : PySem.W.Frag) : List V → Hp → VK → Prop := fun xs H Q => ∃ p ys, xs = [.ref p] ∧ ((SqL K H p ys ∧ ∀ l, H l = none → Q (.ref l) (upd H l (.tup ys))) ∨ (SqT K H p ys ∧ Q (.ref p) H))
def rListOf (K : PySem.W.Frag) : List V → Hp → VK → Prop := fun xs H Q => ∃ p ys, xs = [.ref p] ∧ (SqL K H p ys ∨ SqT K H p ys) ∧ ∀ l, H l = none → Q (.ref l) (upd H l (.lst ys))
section
variable {X : Cx} {K : PySem.W.Frag}
theorem k_len (hK : X.K = K) : CallR X (.builtin "len") (rLen K) := by subst hK; exact call_len_seq
theorem k_tupOf (hK : X.K = K) : CallR X (.type "tuple") (rTupOf K) := by subst hK; exact call_tuple_of
theorem k_listOf (hK : X.K = K) : CallR X (.type "list") (rListOf K) := by subst hK; exact call_list_of
theorem k_isi (hK : X.K = K) : CallR X (.builtin "isinstance") (rIsi K) := by subst hK; exact call_isi
theorem k_ixT (hK : X.K = K) : IxR X (rIxT K) := by subst hK; exact ix_tup
theorem k_ixL (hK : X.K = K) : IxR X (rIxL K) := by subst hK; exact ix_list
theorem k_slT (hK : X.K = K) : SlR X (rSlA K) := by subst hK; exact sl_tupA
theorem k_catT (hK : X.K = K) : OpR X (binaryOp .Add) (rCatA K) := by subst hK; exact op_catA
theorem k_sumT (hK : X.K = K) (hc : X.calm = true) : CallR X (.builtin "sum") (rSumT K) := by subst hK; exact cr_sumT hc
end

/-! ### a statement, then the rest, with a word between them -/
def tCut (t u : TS) : TS := fun D σ H => ∃ Mid : L2.St → Hp → Prop, t { D with nx := Mid } σ H ∧ ∀ σ' H', Mid σ' H' → u D σ' H'
theorem pss_cut {X : Cx} {st : Stmt} {rest : List Stmt} {t u : TS} (h1 : PS X st t) (h2 : PSs X rest u) : PSs X (st :: rest) (tCut t u) := by
  refine ⟨fun pins s σ H D I h => ?_⟩
  obtain ⟨Mid, hm, hu⟩ := h
  refine wpAny_execs_cons (thn (h1.run pins s σ H { D with nx := Mid } I hm) fun f s1 q => ?_)
  cases f with
  | next =>
    obtain ⟨σ', H', I', q⟩ := q
    exact h2.run pins s1 σ' H' D I' (hu σ' H' q)
  | ret v => exact q
  | brk => exact q
  | cont => exact q

/-! ### a tuple that is known to be plain; its method index -/
def rTupOfZ (K : PySem.W.Frag) : List V → Hp → VK → Prop := fun xs H Q => ∃ p ys, xs = [.ref p] ∧ SqL K H p ys ∧ ∀ l o, H l = none → o.dict = none → Q (.ref l) (upd H l (.frz o (.tup ys)))
theorem k_tupOfZ {X : Cx} {K : PySem.W.Frag} (hK : X.K = K) : CallR X (.type "tuple") (rTupOfZ K) := by
  subst hK
  intro pins s σ H xs us Q I r h
  obtain ⟨p, ys, rfl, hq, q⟩ := h
  obtain ⟨u, rfl, rx⟩ := vals1 r
  cases rx
  obtain ⟨its, r', pl, hz⟩ := I.list hq
  have hlen := r'.length
  refine call_tuple_list pl.isList (fun h' kp => ?_) (by simp only [List.size_toArray] <;> omega)
  have I1 : Inv X pins σ H { s with heap := h' } := I.kept (t' := s.toks) kp
  have I2 : Inv X pins σ (upd H h'.objs.size (.frz { cls := .type "tuple", data := .seq its.toArray } (.tup ys))) { s with heap := h'.push { cls := .type "tuple", data := .seq its.toArray } } :=
    I1.laid (t' := s.toks) (fun b o e => Heap.get?_push_of_some _ e) (Nat.le_refl _) (show ObjOk X.prog X.w _ _ _ (.frz _ (.tup ys)) from ⟨Heap.get?_push_size _ rfl, hz, its, r', IsTup.new _ _⟩)
  exact ⟨.ref h'.objs.size, _, I2, rfl, q _ _ (I1.hok.fresh (Nat.le_refl _)) rfl⟩
def tTM (r : V → List V → Hp → VK → Prop) (to : TE) (t : TA) : TE := fun σ H Q => to σ H fun x H1 => (∃ a ob xs, x = .ref a ∧ H1 a = some (.frz ob (.tup xs)) ∧ ob.dict = none) ∧ t σ H1 fun xs H2 => r x xs H2 Q
theorem pe_tm {X : Cx} {o e : Expr} {es : List Expr} {to : TE} {t : TA} {name : Str} {apos cpos : Pos} {id : String} {r : V → List V → Hp → VK → Prop} (slot : Slot "tuple" name id) (hty : typeOf (.builtin id) = pure (.type "method_descriptor")) (hm : MtR X id r) (ho : PE X o to) (ha : PA X (e :: es) t)
    (hbase : attributeBase o name X.env (eval o X.env) = eval o X.env := by rfl)
    (hfew : ((backTo cpos (starEach (e :: es) X.env)).all (fun x => !x.1) && (backToKw cpos (keywordEach [] X.env)).all (fun x => x.1.isSome)
      && decide ((e :: es).length + ([] : List Keyword).length + (if ([] : List Keyword).isEmpty then 0 else 1) < 30)) = true := by rfl)
    (hline : (apos.endLine == cpos.line) = true := by rfl) (hs : starEach (e :: es) X.env = (false, eval e X.env) :: starEach es X.env := by rfl) (hplain : (backTo cpos (starEach es X.env)).any (·.1) = false := by rfl) :
    PE X (.Call (.Attribute o name apos) (e :: es) [] cpos) (tTM r to t) := by
  refine ⟨fun pins s σ H Q I h => ?_⟩
  refine wpAny_Call_method_late hbase hfew hline rfl (thn (ho.run pins s σ H _ I h) fun v s1 ⟨x, H1, I1, r1, ty, q1⟩ => ?_)
  obtain ⟨a, ob, xs, rfl, hf, hd⟩ := ty
  cases r1
  obtain ⟨hg, hz, its, rv, o', ho', hc, _⟩ := (show ObjOk X.prog X.w H1 s1.heap a (.frz ob (.tup xs)) from I1.hok a _ hf)
  have hc' : ob.cls = .type "tuple" := by rw [hg] at ho'; cases ho'; exact hc
  refine ⟨"tuple", id, PySem.F.plainAttrs_tuple, slot, hty, ⟨ob, hg, hc'⟩, fun b e => by cases e; exact ⟨ob, hg, hd⟩, ?_⟩
  have hA := ha.run cpos pins s1 σ H1 _ I1 q1
  rw [hs] at hA ⊢
  refine Calls.callWith_builtin (by show (false || (backTo cpos (starEach es X.env)).any (·.1)) = false; rw [hplain] <;> rfl) (Calls.evalArgs_plain ?_)
  exact thn hA fun us s2 ⟨vs, H2, I2, r2, q2⟩ => hm pins s2 σ H2 (.ref a) vs (.ref a) us Q I2 rfl r2 q2

/-! ### places in the text -/
def xAsg : Stmt → Expr
  | .Assign _ e _ => e
  | _ => .Constant .none 0 ⟨0, 0, 0, 0⟩
def xArg (i : Nat) : Expr → Expr
  | .Call _ as _ _ => as.getD i (.Constant .none 0 ⟨0, 0, 0, 0⟩)
  | _ => .Constant .none 0 ⟨0, 0, 0, 0⟩
def xLcSc : Expr → Scope
  | .ListComp _ _ sc _ => sc
  | _ => { kind := .function, names := [], isGenerator := false, isCoroutine := false }
/-! ### readings are monotone -/
theorem mono_pair {K : PySem.W.Frag} {n i j : Nat} (x : V) (σ' : L2.St) (H' : Hp) (Q Q' : L2.St → Hp → Prop) (h : ∀ a b, Q a b → Q' a b) (e : gTup K n (gCons (gName i) (gCons (gName j) gNil)) x σ' H' Q) : gTup K n (gCons (gName i) (gCons (gName j) gNil)) x σ' H' Q' := by
  obtain ⟨a, xs, e1, e2, e3, v, r, e4, v', r', e5, e6, q⟩ := e
  exact ⟨a, xs, e1, e2, e3, v, r, e4, v', r', e5, e6, h _ _ q⟩

section
variable {X : Cx} {K : PySem.W.Frag}
theorem k_piL {tg l : Expr} {tl : TE} (hK : X.K = K) (hl : PE X l tl) : PI X tg l (iList K tl) := by subst hK; exact pi_list hl
theorem k_piT {tg l : Expr} {tl : TE} (hK : X.K = K) (hl : PE X l tl) : PI X tg l (iTup K tl) := by subst hK; exact pi_tup hl
theorem k_pgT2 {x y : Str} {px py : Pos} {k : Nat} {pos : Pos} {t1 t2 : TG} (hK : X.K = K) (hc : X.calm = true) (h1 : PG X (.Name x px) t1) (h2 : PG X (.Name y py) t2) : PG X (.Tuple [.Name x px, .Name y py] k pos) (gTup K 2 (gCons t1 (gCons t2 gNil))) := by
  subst hK
  exact pg_tup hc (pgs_cons h1 (pgs_cons h2 pgs_nil))
end
end MB

set_option maxHeartbeats 4000000
namespace MB
open PySem PySem.Spec PyProof.Rows L2

/-! ### heaps -/
theorem same_upd {H : Hp} {p : Addr} {o : HO} (h : H p = none) : Same H (upd H p o) := fun b x e => by
  rw [upd_ne (ne_of_none e h)]
  exact e
/-- an object that was not tracked may change -/
theorem Same.mut {H H' : Hp} {p : Addr} {o : HO} (s : Same H H') (h : H p = none) : Same H (upd H' p o) := fun b x e => by
  rw [upd_ne (ne_of_none e h)]
  exact s _ _ e
theorem Same.tup {K : PySem.W.Frag} {H H' : Hp} {a : Addr} {xs : List V} (e : Same H H') (h : SqT K H a xs) : SqT K H' a xs := by
  rcases h with (h | ⟨o, h⟩) | h
  · exact .inl (.inl (e _ _ h))
  · exact .inl (.inr ⟨o, e _ _ h⟩)
  · exact .inr h
theorem Same.tupF {K : PySem.W.Frag} {H H' : Hp} {a : Addr} {o : Obj} {xs : List V} (e : Same H H') (h : H a = some (.frz o (.tup xs))) : SqT K H' a xs := .inl (.inr ⟨o, e _ _ h⟩)
theorem Dp.same {K : PySem.W.Frag} {H H' : Hp} (e : Same H H') : ∀ {v : V} {d : PyData}, Dp K H v d → Dp K H' v d := by
  intro v d h
  refine Dp.rec (motive_1 := fun v d _ => Dp K H' v d) (motive_2 := fun vs ds _ => DpAll K H' vs ds) ?_ ?_ ?_ ?_ ?_ ?_ ?_ ?_ h
  · exact .non
  · intro b; exact .bl b
  · intro i; exact .int i
  · intro x; exact .str x
  · intro a xs ds hs _ ih; exact .lst (e.seq hs) ih
  · intro a xs ds hs _ ih; exact .tup (Same.tup e hs) ih
  · exact .nil
  · intro v vs d ds _ _ h1 h2; exact .cons h1 h2
theorem DpAll.get {K : PySem.W.Frag} {H : Hp} : ∀ {vs : List V} {ds : List PyData}, DpAll K H vs ds → ∀ {i : Nat} {d : PyData}, ds[i]? = some d → ∃ v, vs[i]? = some v ∧ Dp K H v d
  | _, _, .nil, i, d, h => by simp at h
  | _, _, .cons a b, 0, d, h => by
    simp at h; subst h
    exact ⟨_, rfl, a⟩
  | _, _, .cons a b, i + 1, d, h => by
    obtain ⟨v, h1, h2⟩ := DpAll.get b (i := i) (d := d) (by simpa using h)
    exact ⟨v, by simpa using h1, h2⟩
theorem DpAll.len {K : PySem.W.Frag} {H : Hp} : ∀ {vs : List V} {ds : List PyData}, DpAll K H vs ds → vs.length = ds.length
  | _, _, .nil => rfl
  | _, _, .cons a b => by simp [DpAll.len b]
theorem DpAll.take {K : PySem.W.Frag} {H : Hp} : ∀ {vs : List V} {ds : List PyData} (n : Nat), DpAll K H vs ds → DpAll K H (vs.take n) (ds.take n)
  | _, _, 0, _ => .nil
  | _, _, _ + 1, .nil => .nil
  | _, _, n + 1, .cons a b => .cons a (DpAll.take n b)
theorem DpAll.append {K : PySem.W.Frag} {H : Hp} : ∀ {vs ws : List V} {ds es : List PyData}, DpAll K H vs ds → DpAll K H ws es → DpAll K H (vs ++ ws) (ds ++ es)
  | _, _, _, _, .nil, s => s
  | _, _, _, _, .cons a b, s => .cons a (DpAll.append b s)
theorem DpAll.same {K : PySem.W.Frag} {H H' : Hp} (e : Same H H') : ∀ {vs : List V} {ds : List PyData}, DpAll K H vs ds → DpAll K H' vs ds
  | _, _, .nil => .nil
  | _, _, .cons a b => .cons (Dp.same e a) (DpAll.same e b)
theorem dp_ints {K : PySem.W.Frag} {H : Hp} : ∀ ns : List Int, DpAll K H (ns.map V.int) (ns.map PyData.int)
  | [] => .nil
  | n :: ns => .cons (.int n) (dp_ints ns)
theorem ty_tup {K : PySem.W.Frag} {H : Hp} {a : Addr} {xs : List V} (h : SqT K H a xs) : TyX K H (.ref a) (.type "tuple") := by
  rcases h with (h | ⟨o, h⟩) | ⟨o, its, n, h, hc, _⟩
  · exact .base (.tup h)
  · exact .fTuple h
  · exact .kTuple h hc

/-! ### lists of numbers -/
def vi (p : List Nat) : List V := p.map fun (m : Nat) => V.int (m : Int)
def ci (p : List Nat) : List Int := p.map fun (m : Nat) => (m : Int)
theorem vi_ci (p : List Nat) : vi p = (ci p).map V.int := by simp [vi, ci]
theorem vi_len (p : List Nat) : (vi p).length = p.length := by simp [vi]
theorem vi_get {p : List Nat} {i m : Nat} (h : p[i]? = some m) : (vi p)[i]? = some (.int (m : Int)) := by simp [vi, h]
theorem vi_app (p q : List Nat) : vi (p ++ q) = vi p ++ vi q := by simp [vi]
theorem at_vi {p : List Nat} {i m : Nat} (h : p[i]? = some m) : atI (vi p) (i : Int) = some (.int (m : Int)) := atI_nat (vi_get h)
theorem sz60 {n : Nat} (h : n ≤ 100000) : n ≤ sizeLine := Nat.le_trans h (by decide)
theorem sz61 {n : Nat} (h : n ≤ 100000) : n < sizeLine := Nat.lt_of_le_of_lt h (by decide)
theorem decT {c : Prop} [Decidable c] (h : c) {A B : Prop} (a : A) : if decide c = true then A else B := by
  rw [if_pos (decide_eq_true h)]; exact a
theorem decF {c : Prop} [Decidable c] (h : ¬ c) {A B : Prop} (b : B) : if decide c = true then A else B := by
  rw [if_neg (by simp [h])]; exact b

/-! ### data of tuples: no list within -/
inductive Tf : PyData → Prop
  | non : Tf .none
  | bl (b : Bool) : Tf (.bool b)
  | int (i : Int) : Tf (.int i)
  | str (x : Str) : Tf (.str x)
  | tup {ds : List PyData} : (∀ d, d ∈ ds → Tf d) → Tf (.tuple ds)
theorem Tf.items {ds : List PyData} (h : Tf (.tuple ds)) : ∀ d, d ∈ ds → Tf d := by
  cases h with
  | tup h => exact h
theorem tf_ints (ns : List Int) : ∀ d, d ∈ ns.map PyData.int → Tf d := fun d h => by
  obtain ⟨i, _, rfl⟩ := List.mem_map.mp h
  exact .int i
/-- all tuples stay -/
def Keep (K : PySem.W.Frag) (H H' : Hp) : Prop := ∀ a xs, SqT K H a xs → SqT K H' a xs
theorem Keep.of {K : PySem.W.Frag} {H H' : Hp} (s : Same H H') : Keep K H H' := fun _ _ h => Same.tup s h
theorem Keep.trans {K : PySem.W.Frag} {H H1 H2 : Hp} (a : Keep K H H1) (b : Keep K H1 H2) : Keep K H H2 := fun _ _ h => b _ _ (a _ _ h)
theorem Keep.refl {K : PySem.W.Frag} {H : Hp} : Keep K H H := fun _ _ h => h
/-- all but the list at l stay -/
def But (l : Addr) (H H' : Hp) : Prop := ∀ b o, b ≠ l → H b = some o → H' b = some o
theorem But.refl {l : Addr} {H : Hp} : But l H H := fun _ _ _ h => h
theorem But.trans {l : Addr} {H H1 H2 : Hp} (a : But l H H1) (b : But l H1 H2) : But l H H2 := fun c o n h => b c o n (a c o n h)
theorem But.of {l : Addr} {H H' : Hp} (s : Same H H') : But l H H' := fun c o _ h => s c o h
theorem But.upd {l : Addr} {H : Hp} {o : HO} : But l H (L2.upd H l o) := fun c u n h => by rw [upd_ne n]; exact h
theorem But.keep {K : PySem.W.Frag} {l : Addr} {H H' : Hp} {ys : List V} (s : But l H H') (hl : H l = some (.lst ys)) : Keep K H H' := fun a xs h => by
  rcases h with (h | ⟨o, h⟩) | h
  · exact .inl (.inl (s _ _ (fun e => by rw [e, hl] at h; cases h) h))
  · exact .inl (.inr ⟨o, s _ _ (fun e => by rw [e, hl] at h; cases h) h⟩)
  · exact .inr h
theorem But.same {l : Addr} {H0 H H' : Hp} (s : Same H0 H) (b : But l H H') (n : H0 l = none) : Same H0 H' := fun c o e => b c o (ne_of_none e n) (s c o e)
theorem Dp.keep {K : PySem.W.Frag} {H H' : Hp} (e : Keep K H H') : ∀ {v : V} {d : PyData}, Tf d → Dp K H v d → Dp K H' v d := by
  intro v d t h
  refine Dp.rec (motive_1 := fun v d _ => Tf d → Dp K H' v d) (motive_2 := fun vs ds _ => (∀ d, d ∈ ds → Tf d) → DpAll K H' vs ds) ?_ ?_ ?_ ?_ ?_ ?_ ?_ ?_ h t
  · intro _; exact .non
  · intro b _; exact .bl b
  · intro i _; exact .int i
  · intro x _; exact .str x
  · intro a xs ds hs _ ih t; cases t
  · intro a xs ds hs _ ih t; exact .tup (e _ _ hs) (ih t.items)
  · intro _; exact .nil
  · intro v vs d ds _ _ h1 h2 t; exact .cons (h1 (t _ (List.mem_cons_self ..))) (h2 fun d hd => t d (List.mem_cons_of_mem _ hd))
theorem DpAll.keep {K : PySem.W.Frag} {H H' : Hp} (e : Keep K H H') : ∀ {vs : List V} {ds : List PyData}, (∀ d, d ∈ ds → Tf d) → DpAll K H vs ds → DpAll K H' vs ds
  | _, _, _, .nil => .nil
  | _, _, t, .cons a b => .cons (Dp.keep e (t _ (List.mem_cons_self ..)) a) (DpAll.keep e (fun d hd => t d (List.mem_cons_of_mem _ hd)) b)
theorem dp_ints_inv {K : PySem.W.Frag} {H : Hp} : ∀ {ns : List Int} {vs : List V}, DpAll K H vs (ns.map PyData.int) → vs = ns.map V.int
  | [], _, .nil => rfl
  | n :: ns, _, .cons a b => by
    cases a
    rw [dp_ints_inv b]
    rfl
theorem Dp.tupInv {K : PySem.W.Frag} {H : Hp} {v : V} {ds : List PyData} (h : Dp K H v (.tuple ds)) : ∃ a xs, v = .ref a ∧ SqT K H a xs ∧ DpAll K H xs ds := by
  cases h with
  | tup h1 h2 => exact ⟨_, _, rfl, h1, h2⟩
theorem Dp.intsInv {K : PySem.W.Frag} {H : Hp} {v : V} {ns : List Int} (h : Dp K H v (.tuple (ns.map PyData.int))) : ∃ a, v = .ref a ∧ SqT K H a (ns.map V.int) := by
  obtain ⟨a, xs, e, h1, h2⟩ := Dp.tupInv h
  rw [dp_ints_inv h2] at h1
  exact ⟨a, e, h1⟩

/-! ### a comprehension that gives an item at each turn -/
theorem lc_all {K : PySem.W.Frag} {J : It} {n : Nat} {G : Hp → Prop} {Y : Nat → Hp → V → Hp → Prop} (w : Walk J n G Y) {g : TG} {tt : TT} {te : TE} {vs : List Nat} {σ : L2.St} {H1 : Hp} {D : Addr} {Qd : Hp → Prop}
    (ds : List PyData) (hl : ds.length = n) (ht : ∀ d, d ∈ ds → Tf d) (hn : n ≤ 1000) (hD : H1 D = none) (hG : ∀ H, Same H1 H → G H)
    (hs : ∀ i x H H', i < n → Same H1 H → Y i H x H' → ∀ d, ds[i]? = some d → ∀ R : V → Hp → Prop, (∀ y H4, Same H H4 → Dp K H4 y d → R y H4) →
      g x (wipe σ vs) H' fun σ2 H2 => wipe σ2 vs = wipe σ vs ∧ tt σ2 H2 fun b H3 => b = true ∧ te σ2 H3 R)
    (hd : ∀ H acc, Same H1 H → H D = some (.lst acc) → DpAll K H acc ds → Qd H)
    (mg : ∀ x σ' H' (Q Q' : L2.St → Hp → Prop), (∀ a b, Q a b → Q' a b) → g x σ' H' Q → g x σ' H' Q') (mt : ∀ σ' H' (Q Q' : Bool → Hp → Prop), (∀ a b, Q a b → Q' a b) → tt σ' H' Q → tt σ' H' Q') :
    ∃ W : Nat → Nat → Hp → Prop, (∃ m, W 0 m (upd H1 D (.lst []))) ∧ ∀ i m H, W i m H →
      (J.stop i H ∧ Qd H) ∨ (J.go i H ∧ ∃ Nx : Hp → Prop, (∀ H', Nx H' → ∃ m', m' < m ∧ W (i + 1) m' H') ∧ ∀ x H', J.yld i H x H' → g x (wipe σ vs) H' fun σ2 H2 => wipe σ2 vs = wipe σ vs ∧ tt σ2 H2 fun b H3 =>
        if b = true then te σ2 H3 fun y H4 => ∃ acc, H4 D = some (.lst acc) ∧ acc.length < sizeLine ∧ Nx (upd H4 D (.lst (acc ++ [y]))) else Nx H3) := by
  refine lc_it w (fun i H => Same H1 H ∧ ∃ acc, H D = some (.lst acc) ∧ DpAll K H acc (ds.take i)) ⟨same_upd hD, [], upd_same, .nil⟩ (fun i H _ h => hG H h.1) ?_ ?_
  · rintro i x H H' hi ⟨s1, acc, ha, hA⟩ hy
    have hd' : ds[i]? = some ds[i] := List.getElem?_eq_getElem (by omega)
    have hlen := DpAll.len hA
    rw [List.length_take] at hlen
    refine mg _ _ _ _ _ ?_ (hs i x H H' hi s1 hy ds[i] hd' (fun y H4 => ∃ acc, H4 D = some (.lst acc) ∧ acc.length < sizeLine ∧ (Same H1 (upd H4 D (.lst (acc ++ [y]))) ∧ ∃ acc', (upd H4 D (.lst (acc ++ [y]))) D = some (.lst acc') ∧ DpAll K (upd H4 D (.lst (acc ++ [y]))) acc' (ds.take (i + 1)))) ?_)
    · rintro σ2 H2 ⟨h1, h2⟩
      refine ⟨h1, mt _ _ _ _ ?_ h2⟩
      rintro b H3 ⟨rfl, h3⟩
      exact iteT h3
    · intro y H4 s4 hy4
      refine ⟨acc, s4 _ _ ha, sz61 (by omega), Same.mut (s1.trans s4) hD, acc ++ [y], upd_same, ?_⟩
      have kp : Keep K H4 (upd H4 D (.lst (acc ++ [y]))) := But.keep But.upd (s4 _ _ ha)
      rw [List.take_add_one, hd']
      refine DpAll.keep kp (fun d h => ?_) (DpAll.append (DpAll.same s4 hA) (.cons hy4 .nil))
      rcases List.mem_append.mp h with h | h
      · exact ht d (List.mem_of_mem_take h)
      · have e : d = ds[i] := by simpa using h
        rw [e]; exact ht _ (List.getElem_mem ..)
  · rintro H ⟨s1, acc, ha, hA⟩
    rw [List.take_of_length_le (by omega)] at hA
    exact hd H acc s1 ha hA

/-! ### tuples cut and joined -/
theorem cut_to {xs : List V} {k : Nat} (h : k ≤ xs.length) : cutV xs none (some (k : Int)) = xs.take k := by
  unfold cutV
  rw [HT.sIx_none, HT.sIx_nat, Nat.min_eq_left h]
  simp
theorem cut_from {xs : List V} {k : Nat} (h : k ≤ xs.length) : cutV xs (some (k : Int)) none = xs.drop k := by
  unfold cutV
  rw [HT.sIx_none, HT.sIx_nat, Nat.min_eq_left h]
  rw [List.take_of_length_le (by rw [List.length_drop]; omega)]
theorem sl_read {K : PySem.W.Frag} {H : Hp} {a : Addr} {xs : List V} {lo hi : Option Int} {Q : VK} (h : SqT K H a xs) (q : ∀ p H', Same H H' → SqT K H' p (cutV xs lo hi) → Q (.ref p) H') : rSlA K (.ref a) lo hi H Q := by
  refine ⟨a, xs, rfl, h, fun e => q a H (Same.refl H) ?_, fun _ p hp => q p _ (same_upd hp) (.inl (.inl upd_same))⟩
  unfold cutV
  rw [e.1, e.2]
  simpa using h
theorem cat_read {K : PySem.W.Frag} {H : Hp} {a b : Addr} {xs ys : List V} {Q : VK} (ha : SqT K H a xs) (hb : SqT K H b ys) (hz : xs.length + ys.length ≤ 100000) (q : ∀ p H', Same H H' → SqT K H' p (xs ++ ys) → Q (.ref p) H') : rCatA K (.ref a) (.ref b) H Q := by
  refine ⟨a, b, xs, ys, rfl, rfl, ha, hb, sz60 hz, fun e => q b H (Same.refl H) ?_, fun _ e => q a H (Same.refl H) ?_, fun _ _ p hp => q p _ (same_upd hp) (.inl (.inl upd_same))⟩
  · rw [e]; exact hb
  · rw [e, List.append_nil]; exact ha
theorem DpAll.snoc {K : PySem.W.Frag} {H : Hp} : ∀ {vs : List V} {ds : List PyData} {d : PyData}, DpAll K H vs (ds ++ [d]) → ∃ us v, vs = us ++ [v] ∧ DpAll K H us ds ∧ Dp K H v d
  | _, [], _, .cons a .nil => ⟨[], _, rfl, .nil, a⟩
  | _, _ :: ds, _, .cons a b => by
    obtain ⟨us, v, e, h1, h2⟩ := DpAll.snoc b
    exact ⟨_ :: us, v, by rw [e]; rfl, .cons a h1, h2⟩
theorem ixN_of {n j : Nat} (hj : j < n) : ixN n (j : Int) = some j := by
  unfold ixN
  rw [if_pos (by omega), if_pos (by omega)]
  simp
theorem vi_set (c : List Nat) (k v : Nat) : (vi c).set k (.int (v : Int)) = vi (c.set k v) := by
  unfold vi
  rw [List.map_set]
theorem vi_rep (n v : Nat) : vi (List.replicate n v) = List.replicate n (.int (v : Int)) := by simp [vi]

/-! ### [x for x in range(lo, hi) if ..] -/
theorem lc_fil {lo : Int} {n j : Nat} {vs : List Nat} {σ : L2.St} {H1 : Hp} {D : Addr} {Qd : Hp → Prop} {tt : TT} (f : Nat → Bool) (hn : n ≤ 1000) (hD : H1 D = none)
    (hw : ∀ x, wipe ((wipe σ vs).set j (some x)) vs = wipe σ vs) (hj : ∀ x : V, ((wipe σ vs).set j (some x))[j]? = some (some x))
    (ht : ∀ (i : Nat) H (Q : Bool → Hp → Prop), i < n → Same H1 H → Q (f i) H → tt ((wipe σ vs).set j (some (.int (lo + (i : Nat))))) H Q)
    (hd : ∀ H, Same H1 H → H D = some (.lst (((List.range n).filter f).map fun (i : Nat) => V.int (lo + (i : Nat)))) → Qd H) :
    ∃ W : Nat → Nat → Hp → Prop, (∃ m, W 0 m (upd H1 D (.lst []))) ∧ ∀ i m H, W i m H →
      ((Itr lo n).stop i H ∧ Qd H) ∨ ((Itr lo n).go i H ∧ ∃ Nx : Hp → Prop, (∀ H', Nx H' → ∃ m', m' < m ∧ W (i + 1) m' H') ∧ ∀ x H', (Itr lo n).yld i H x H' → gName j x (wipe σ vs) H' fun σ2 H2 => wipe σ2 vs = wipe σ vs ∧ tt σ2 H2 fun b H3 =>
        if b = true then tVar j σ2 H3 fun y H4 => ∃ acc, H4 D = some (.lst acc) ∧ acc.length < sizeLine ∧ Nx (upd H4 D (.lst (acc ++ [y]))) else Nx H3) := by
  refine lc_range (lo := lo) (n := n) (fun i H => Same H1 H ∧ H D = some (.lst (((List.range i).filter f).map fun (i : Nat) => V.int (lo + (i : Nat))))) ⟨same_upd hD, upd_same⟩ ?_ ?_
  · rintro i H hi ⟨s1, h1⟩
    refine ⟨hw _, ht i H _ hi s1 ?_⟩
    have hlen : (((List.range i).filter f).map fun (i : Nat) => V.int (lo + (i : Nat))).length ≤ i := by
      rw [List.length_map]
      have := List.length_filter_le f (List.range i)
      rw [List.length_range] at this
      exact this
    by_cases hf : f i = true
    · rw [hf]
      refine iteT ⟨_, hj _, _, h1, sz61 (by omega), Same.mut s1 hD, ?_⟩
      rw [List.range_succ, List.filter_append, List.map_append]
      simp only [List.filter_cons, hf, if_true, List.filter_nil, List.map_cons, List.map_nil]
      exact upd_same
    · have hf' : f i = false := by simpa using hf
      rw [hf']
      refine iteF ⟨s1, ?_⟩
      rw [List.range_succ, List.filter_append, List.map_append]
      simpa [hf'] using h1
  · rintro H ⟨s1, h1⟩
    exact hd H s1 h1
theorem iteB1 {b : Bool} {A B : Prop} (h : b = true) (a : A) : if b = true then A else B := by rw [if_pos h]; exact a
theorem iteB0 {b : Bool} {A B : Prop} (h : b = false) (a : B) : if b = true then A else B := by rw [if_neg (by rw [h]; decide)]; exact a

/-! ### deep comparisons -/
theorem lay_all : ∀ {ds : List PyData}, (∀ d, d ∈ ds → d.canLay0 = true) → PyData.canLayAll0 ds = true
  | [], _ => by simp [PyData.canLayAll0]
  | d :: ds, h => by
    simp only [PyData.canLayAll0]
    rw [h d (List.mem_cons_self ..), lay_all fun e he => h e (List.mem_cons_of_mem _ he)]; rfl
theorem dep_all {k : Nat} : ∀ {ds : List PyData}, (∀ d, d ∈ ds → d.depth ≤ k) → PyData.depthAll ds ≤ k
  | [], _ => by simp [PyData.depthAll]
  | d :: ds, h => by
    simp only [PyData.depthAll]
    have h1 := h d (List.mem_cons_self ..)
    have h2 := dep_all (k := k) fun e he => h e (List.mem_cons_of_mem _ he)
    omega
/-- plain data of at most so many levels -/
def Sh (k : Nat) (d : PyData) : Prop := d.canLay0 = true ∧ d.depth ≤ k
theorem Sh.shaped {k : Nat} {d : PyData} (h : Sh k d) (hk : k ≤ 64) : SeqAt.shaped d = true := by
  unfold SeqAt.shaped
  rw [h.1, decide_eq_true (by have := h.2; omega)]; rfl
theorem Sh.tup {k : Nat} {ds : List PyData} (h : ∀ d, d ∈ ds → Sh k d) : Sh (k + 1) (.tuple ds) :=
  ⟨by simp only [PyData.canLay0]; exact lay_all fun d hd => (h d hd).1, by simp only [PyData.depth]; have := dep_all (k := k) (ds := ds) fun d hd => (h d hd).2; omega⟩
theorem Sh.lst {k : Nat} {ds : List PyData} (h : ∀ d, d ∈ ds → Sh k d) : Sh (k + 1) (.list ds) :=
  ⟨by simp only [PyData.canLay0]; exact lay_all fun d hd => (h d hd).1, by simp only [PyData.depth]; have := dep_all (k := k) (ds := ds) fun d hd => (h d hd).2; omega⟩
theorem Sh.int (i : Int) {k : Nat} : Sh k (.int i) := ⟨by simp [PyData.canLay0], by simp [PyData.depth]⟩
theorem Sh.ints {k : Nat} (ns : List Int) : ∀ d, d ∈ ns.map PyData.int → Sh k d := fun d h => by
  obtain ⟨i, _, rfl⟩ := List.mem_map.mp h
  exact .int i
theorem eq_data {K : PySem.W.Frag} {H : Hp} {x y : V} {d : PyData} {Q : VK} {k : Nat} (hx : Dp K H x d) (hy : Dp K H y d) (hs : Sh k d) (hk : k ≤ 64) (q : Q (.bl true) H) : rEqD K x y H Q :=
  ⟨d, d, hx, hy, hs.shaped hk, hs.shaped hk, by rw [SeqAt.eqv_refl d hs.1]; exact q⟩
theorem ne_data {K : PySem.W.Frag} {H : Hp} {x y : V} {d : PyData} {Q : VK} {k : Nat} (hx : Dp K H x d) (hy : Dp K H y d) (hs : Sh k d) (hk : k ≤ 64) (q : Q (.bl false) H) : rNeD K x y H Q :=
  ⟨d, d, hx, hy, hs.shaped hk, hs.shaped hk, by rw [SeqAt.eqv_refl d hs.1]; exact q⟩
theorem dp_tup {K : PySem.W.Frag} {H : Hp} {a : Addr} {ns : List Int} (h : SqT K H a (ns.map V.int)) : Dp K H (.ref a) (.tuple (ns.map PyData.int)) := .tup h (dp_ints ns)
theorem ne_ints {K : PySem.W.Frag} {H : Hp} {a b : Addr} {ns : List Int} {Q : VK} (ha : SqT K H a (ns.map V.int)) (hb : SqT K H b (ns.map V.int)) (q : Q (.bl false) H) : rNeD K (.ref a) (.ref b) H Q :=
  ne_data (dp_tup ha) (dp_tup hb) (Sh.tup (k := 0) (Sh.ints ns)) (by decide) q
end MB

set_option maxHeartbeats 4000000
namespace MB
open PySem PySem.Spec PyProof.Rows L2
/-! ### dicts whose keys are tuples of ints, by the data of the keys -/
abbrev KX := List (List Int × Addr × V)
def RX : KX → List (List Int × Addr × Value) → Prop := Paired fun p q => p.1 = q.1 ∧ p.2.1 = q.2.1 ∧ RelV p.2.2 q.2.2
def kvX (L : KX) : List (List Int × V) := L.map fun x => (x.1, x.2.2)
def putX (L : KX) (k : List Int) (b : Addr) (v : V) : KX :=
  if ((kvX L).any fun kv => decide (kv.1 = k)) = true then L.map (fun x => if x.1 = k then (x.1, x.2.1, v) else x) else L ++ [(k, b, v)]
theorem kvX_put (L : KX) (k : List Int) (b : Addr) (v : V) : kvX (putX L k b v) = putK (kvX L) k v := by
  unfold putX putK
  split
  · unfold kvX
    rw [List.map_map, List.map_map]
    refine List.map_congr_left fun x _ => ?_
    by_cases h : x.1 = k <;> simp [h]
  · simp [kvX]
theorem putX_key {L : KX} {k : List Int} {b : Addr} {v : V} {x : List Int × Addr × V} (h : x ∈ putX L k b v) : (∃ y ∈ L, x.1 = y.1 ∧ x.2.1 = y.2.1) ∨ (x.1 = k ∧ x.2.1 = b) := by
  unfold putX at h
  split at h
  · obtain ⟨y, hy, rfl⟩ := List.mem_map.mp h
    refine .inl ⟨y, hy, ?_⟩
    split <;> exact ⟨rfl, rfl⟩
  · rcases List.mem_append.mp h with h | h
    · exact .inl ⟨x, h, rfl, rfl⟩
    · simp only [List.mem_singleton] at h
      subst h
      exact .inr ⟨rfl, rfl⟩
theorem RX.val {L : KX} {xs : List (List Int × Addr × Value)} (r : RX L xs) (k : List Int) : RelO (valV (kvX L) k) ((atKey xs k).map (·.2)) := by
  unfold RX at r
  induction r with
  | nil => exact True.intro
  | @cons p q ps qs h t ih =>
    obtain ⟨h1, _, h2⟩ := h
    show RelO (valV ((p.1, p.2.2) :: kvX ps) k) _
    by_cases e : p.1 = k
    · have e' : q.1 = k := h1.symm.trans e
      have b : atKey (q :: qs) k = some q.2 := by simp [atKey, List.find?_cons, e']
      rw [valV_pos (p := (p.1, p.2.2)) e, b]; exact h2
    · have e' : ¬ q.1 = k := fun z => e (h1.trans z)
      have b : atKey (q :: qs) k = atKey qs k := by simp [atKey, List.find?_cons, e']
      rw [valV_neg (p := (p.1, p.2.2)) e, b]; exact ih
theorem RX.repl {L : KX} {xs : List (List Int × Addr × Value)} (r : RX L xs) (k : List Int) {y : V} {u : Value} (ry : RelV y u) :
    RX (L.map fun x => if x.1 = k then (x.1, x.2.1, y) else x) (xs.map (putAt k u)) := by
  unfold RX at r ⊢
  induction r with
  | nil => exact .nil
  | @cons p q ps qs h t ih =>
    rw [List.map_cons, List.map_cons]
    refine .cons ?_ ih
    obtain ⟨h1, h2, h3⟩ := h
    unfold putAt
    by_cases e : p.1 = k
    · rw [if_pos e, if_pos (h1.symm.trans e)]; exact ⟨h1, h2, ry⟩
    · rw [if_neg e, if_neg (fun z => e (h1.trans z))]; exact ⟨h1, h2, h3⟩
theorem RX.put {L : KX} {xs : List (List Int × Addr × Value)} (r : RX L xs) (k : List Int) {b : Addr} {y : V} {u : Value} (ry : RelV y u) : RX (putX L k b y) (storedH xs k b u) := by
  have e : ((kvX L).any fun kv => decide (kv.1 = k)) = (atKey xs k).isSome := by
    rw [valV_any, (r.val k).isSome_eq, Option.isSome_map]
  unfold putX storedH
  rw [e]
  by_cases q : (atKey xs k).isSome = true
  · rw [if_pos q, if_pos q]; exact r.repl k ry
  · rw [if_neg q, if_neg q]; exact Paired.snoc r ⟨rfl, rfl, ry⟩
theorem RX.len {L : KX} {xs : List (List Int × Addr × Value)} (r : RX L xs) : L.length = xs.length := Paired.length r
theorem kvX_len (L : KX) : (kvX L).length = L.length := by simp [kvX]
def DX0 (P : Program) (w : World) (h : Heap) (d : Addr) (L : KX) : Prop := L.length ≤ sizeLine ∧ (d == sysModules) = false ∧ ∃ xs, RX L xs ∧
  ∃ o es ep, h.get? d = some o ∧ o.ExactDict ∧ o.data = .dict es ep ∧ es.toList = xs.map (entryOfKey (tupleKind (intKind P w))) ∧ (xs.map (·.1)).Nodup
def DXO (P : Program) (w : World) (d : Addr) (L : KX) : HO := .ext fun h => DX0 P w h d L
theorem dx_new {P : Program} {w : World} {H : Hp} {h : Heap} {d : Addr} {L : KX} (R : DX0 P w h d L) : ObjOk P w H h d (DXO P w d L) := by
  have ⟨z, y, xs, r, o, es, ep, ho, q⟩ := R
  refine ⟨R, ⟨o, ho⟩, fun h1 h2 p k => ?_⟩
  have ⟨z', y', xs', r', o', es', ep', ho', q'⟩ := p
  exact ⟨z', y', xs', r', o', es', ep', k o' ho', q'⟩
/-- at d stands a dict with the keys and values kvs -/
def DN (K : PySem.W.Frag) (P : Program) (w : World) (H : Hp) (d : Addr) (kvs : List (List Int × V)) : Prop :=
  ∃ L : KX, H d = some (DXO P w d L) ∧ (∀ x ∈ L, SqT K H x.2.1 (x.1.map V.int)) ∧ kvX L = kvs
theorem DN.same {K : PySem.W.Frag} {P : Program} {w : World} {H H' : Hp} {d : Addr} {kvs : List (List Int × V)} (g : DN K P w H d kvs) (s : Same H H') : DN K P w H' d kvs := by
  obtain ⟨L, h1, h2, h3⟩ := g
  exact ⟨L, s _ _ h1, fun x hx => Same.tup s (h2 x hx), h3⟩
theorem DN.keep {K : PySem.W.Frag} {P : Program} {w : World} {H H' : Hp} {d : Addr} {kvs : List (List Int × V)} (g : DN K P w H d kvs) (s : Keep K H H') (e : ∀ o, H d = some o → H' d = some o) : DN K P w H' d kvs := by
  obtain ⟨L, h1, h2, h3⟩ := g
  exact ⟨L, e _ h1, fun x hx => s _ _ (h2 x hx), h3⟩
/-- what is not at d stays, tuples stay -/
theorem keep_updX {K : PySem.W.Frag} {P : Program} {w : World} {H : Hp} {d : Addr} {L L' : KX} (h : H d = some (DXO P w d L)) : Keep K H (upd H d (DXO P w d L')) := fun a xs hs => by
  rcases hs with (hs | ⟨o, hs⟩) | hs
  · exact .inl (.inl (by rw [upd_ne (fun e => by rw [e, h] at hs; cases hs)]; exact hs))
  · exact .inl (.inr ⟨o, by rw [upd_ne (fun e => by rw [e, h] at hs; cases hs)]; exact hs⟩)
  · exact .inr hs
section
variable {X : Cx} {pins : List (Addr × Obj)} {σ : L2.St} {H : Hp} {s : Shared} {d a b : Addr} {kvs : List (List Int × V)} {k : List Int} {A : Around} {E : Value → Shared → Prop}
theorem DN.at (I : Inv X pins σ H s) (g : DN X.K X.prog X.w H d kvs) : (d == sysModules) = false ∧ ∃ (L : KX) (xs : List (List Int × Addr × Value)), H d = some (DXO X.prog X.w d L) ∧ (∀ x ∈ L, SqT X.K H x.2.1 (x.1.map V.int)) ∧ kvX L = kvs ∧ RX L xs ∧ L.length ≤ sizeLine ∧ s.heap.DictOfH (tupleKind (intKind X.prog X.w)) d xs := by
  obtain ⟨L, h1, h2, h3⟩ := g
  obtain ⟨⟨z, y, xs, r, o, es, ep, ho, hc, hd, he, hn⟩, _⟩ := (show ObjOk X.prog X.w H s.heap d (DXO X.prog X.w d L) from I.hok d _ h1)
  refine ⟨y, L, xs, h1, h2, h3, r, z, o, es, ep, ho, hc, hd, he, ?_, hn⟩
  have all : ∀ {l : KX} {m : List (List Int × Addr × Value)}, RX l m → (∀ x ∈ l, SqT X.K H x.2.1 (x.1.map V.int)) → ∀ x ∈ m, (tupleKind (intKind X.prog X.w)).is s.heap x.1 x.2.1 := by
    intro l m q
    unfold RX at q
    induction q with
    | nil => intro _ x hx; exact nomatch hx
    | @cons p q ps qs hq t ih =>
      intro hl x hx
      rcases List.mem_cons.mp hx with e | hx
      · subst e
        have := I.isT (hl p (List.mem_cons_self ..))
        rw [hq.1, hq.2.1] at this
        exact this
      · exact ih (fun x hx => hl x (List.mem_cons_of_mem _ hx)) x hx
  exact all r h2
theorem DN.typeIs (I : Inv X pins σ H s) (g : DN X.K X.prog X.w H d kvs) : s.TypeIs (.ref d) "dict" := by
  obtain ⟨_, _, _, _, _, _, _, _, dd⟩ := g.at I
  exact dd.typeIs
theorem DN.noDict (I : Inv X pins σ H s) (g : DN X.K X.prog X.w H d kvs) : ∀ b, Value.ref d = .ref b → ∃ ob, s.heap.get? b = some ob ∧ ob.dict = none := fun b q => by
  cases q
  obtain ⟨_, _, _, _, _, _, _, _, ob, _, _, h1, h2, _⟩ := g.at I
  exact ⟨ob, h1, h2.2.1⟩
theorem n_getItem {v : V} {Q : Value → Shared → Prop} (hu : A.units + 1 < cLine) (I : Inv X pins σ H s) (g : DN X.K X.prog X.w H d kvs) (hk : SqT X.K H b (k.map V.int)) (hv : valV kvs k = some v) (h : ∀ w' s', Inv X pins σ H s' → RelV v w' → Q w' s') :
    wpAny (model X.prog X.w) A (getItem (.ref d) (.ref b)) Q E s := by
  obtain ⟨hd, L, xs, _, _, e, r, _, dd⟩ := g.at I
  obtain ⟨w', hw, rw'⟩ := RelO.some_of (v := v) (o := (atKey xs k).map (·.2)) (by rw [← hv, ← e]; exact r.val k)
  obtain ⟨p, hp, hp2⟩ := Option.map_eq_some_iff.mp hw
  refine wpAny_getItem_heap (tupleKind_room_in1 hu) (I.isT hk) dd hp ?_
  rw [hp2]
  exact h w' _ (I.tok _) rw'
theorem n_in {Q : Value → Shared → Prop} (hu : A.units + 1 < cLine) (I : Inv X pins σ H s) (g : DN X.K X.prog X.w H d kvs) (hk : SqT X.K H b (k.map V.int)) (h : ∀ s', Inv X pins σ H s' → Q (.bool (valV kvs k).isSome) s') :
    wpAny (model X.prog X.w) A (compareOp .In (.ref b) (.ref d)) Q E s := by
  obtain ⟨hd, L, xs, _, _, e, r, _, dd⟩ := g.at I
  refine wpAny_in_heap (tupleKind_room_in1 hu) (I.isT hk) hd dd ?_
  have q := (r.val k).isSome_eq
  rw [Option.isSome_map, e] at q
  rw [← q]
  exact h _ (I.tok _)
theorem n_notIn {Q : Value → Shared → Prop} (hu : A.units + 1 < cLine) (I : Inv X pins σ H s) (g : DN X.K X.prog X.w H d kvs) (hk : SqT X.K H b (k.map V.int)) (h : ∀ s', Inv X pins σ H s' → Q (.bool (!(valV kvs k).isSome)) s') :
    wpAny (model X.prog X.w) A (compareOp .NotIn (.ref b) (.ref d)) Q E s := by
  obtain ⟨hd, L, xs, _, _, e, r, _, dd⟩ := g.at I
  refine wpAny_notIn_heap (tupleKind_room_in1 hu) (I.isT hk) hd dd ?_
  have q := (r.val k).isSome_eq
  rw [Option.isSome_map, e] at q
  rw [← q]
  exact h _ (I.tok _)
theorem n_get1 {Q : Value → Shared → Prop} (hu : A.units + 1 < cLine) (I : Inv X pins σ H s) (g : DN X.K X.prog X.w H d kvs) (hk : SqT X.K H b (k.map V.int)) (h : ∀ w' s', Inv X pins σ H s' → RelV ((valV kvs k).getD .non) w' → Q w' s') :
    wpAny (model X.prog X.w) A (call (.builtin "dict.get") [.ref d, .ref b]) Q E s := by
  obtain ⟨hd, L, xs, _, _, e, r, _, dd⟩ := g.at I
  refine call_meetsIn PySem.F.slot_dict_get dd.typeIs PySem.F.entry_dict_get (PySem.F.args_dict_get_2 _ _) (meetsH_dict_get (tupleKind (intKind X.prog X.w)) d b hd) ⟨tupleKind_room_in1 hu, k, xs, I.isT hk, dd, h _ _ (I.tok _) ?_⟩
  rw [← e]
  exact (r.val k).getD rfl
theorem n_get2 {z : V} {u : Value} {Q : Value → Shared → Prop} (hu : A.units + 1 < cLine) (I : Inv X pins σ H s) (g : DN X.K X.prog X.w H d kvs) (hk : SqT X.K H b (k.map V.int)) (rz : RelV z u) (h : ∀ w' s', Inv X pins σ H s' → RelV ((valV kvs k).getD z) w' → Q w' s') :
    wpAny (model X.prog X.w) A (call (.builtin "dict.get") [.ref d, .ref b, u]) Q E s := by
  obtain ⟨hd, L, xs, _, _, e, r, _, dd⟩ := g.at I
  refine call_meetsIn PySem.F.slot_dict_get dd.typeIs PySem.F.entry_dict_get (PySem.F.args_dict_get_3 _ _ _) (meetsH_dict_get_default (tupleKind (intKind X.prog X.w)) d b hd u) ⟨tupleKind_room_in1 hu, k, xs, I.isT hk, dd, h _ _ (I.tok _) ?_⟩
  rw [← e]
  exact (r.val k).getD rz
/-- the heaps behind d[k] = v -/
def DNput (K : PySem.W.Frag) (P : Program) (w : World) (H : Hp) (d : Addr) (kvs : List (List Int × V)) (k : List Int) (v : V) (R : Hp → Prop) : Prop :=
  ∀ H', (∀ c, c ≠ d → H' c = H c) → Keep K H H' → DN K P w H' d (putK kvs k v) → R H'
theorem n_setItem {v : V} {u : Value} {Q : Unit → Shared → Prop} (hu : A.units + 1 < cLine) (I : Inv X pins σ H s) (g : DN X.K X.prog X.w H d kvs) (hk : SqT X.K H b (k.map V.int)) (hl : kvs.length < sizeLine) (rv : RelV v u) (h : DNput X.K X.prog X.w H d kvs k v fun H' => ∀ s', Inv X pins σ H' s' → Q () s') :
    wpAny (model X.prog X.w) A (setItem (.ref d) (.ref b) u) Q E s := by
  obtain ⟨hd, L, xs, hL, hS, e, r, z, dd⟩ := g.at I
  have hz : xs.length ≤ sizeLine := by rw [← r.len]; exact z
  have hl2 : (putX L k b v).length ≤ sizeLine := by
    have := length_putK kvs k v
    rw [← kvX_len, kvX_put, e]
    omega
  have kp := keep_updX (K := X.K) (L' := putX L k b v) hL
  refine wpAny_setItem_heap (hsz := hz) (tupleKind_room_in1 hu) (I.isT hk) dd fun h' dd' hs => ?_
  obtain ⟨q, es, ep, hq, h2, h3, h4, _, h5⟩ := dd'
  refine h _ (fun c hc => upd_ne hc) kp ⟨putX L k b v, upd_same, fun x hx => ?_, by rw [kvX_put, e]⟩ _ (d_write I (by rw [hL]; exact True.intro) hs ⟨q, hq⟩ (dx_new ⟨hl2, hd, _, r.put k rv, q, es, ep, hq, h2, h3, h4, h5⟩))
  rcases putX_key hx with ⟨y, hy, e1, e2⟩ | ⟨e1, e2⟩
  · rw [e1, e2]; exact kp _ _ (hS y hy)
  · rw [e1, e2]; exact kp _ _ hk
end
/-! ### readings -/
def tNGet (K : PySem.W.Frag) (P : Program) (w : World) (td ty : TE) : TE := fun σ H Q => td σ H fun x H1 => ty σ H1 fun y H2 => ∃ a b kvs k v, x = .ref a ∧ y = .ref b ∧ DN K P w H2 a kvs ∧ SqT K H2 b (k.map V.int) ∧ valV kvs k = some v ∧ Q v H2
def tNIn (K : PySem.W.Frag) (P : Program) (w : World) (ty td : TE) : TE := fun σ H Q => ty σ H fun y H1 => td σ H1 fun x H2 => ∃ a b kvs k, x = .ref a ∧ y = .ref b ∧ DN K P w H2 a kvs ∧ SqT K H2 b (k.map V.int) ∧ Q (.bl (valV kvs k).isSome) H2
def tNNotIn (K : PySem.W.Frag) (P : Program) (w : World) (ty td : TE) : TE := fun σ H Q => ty σ H fun y H1 => td σ H1 fun x H2 => ∃ a b kvs k, x = .ref a ∧ y = .ref b ∧ DN K P w H2 a kvs ∧ SqT K H2 b (k.map V.int) ∧ Q (.bl (!(valV kvs k).isSome)) H2
def sNPut (K : PySem.W.Frag) (P : Program) (w : World) (td ty tv : TE) : TS := fun D σ H => tv σ H fun v H1 => td σ H1 fun x H2 => ty σ H2 fun y H3 => ∃ a b kvs k, x = .ref a ∧ y = .ref b ∧ DN K P w H3 a kvs ∧ SqT K H3 b (k.map V.int) ∧ kvs.length < sizeLine ∧ DNput K P w H3 a kvs k v fun H' => D.nx σ H'
def tNGet1 (K : PySem.W.Frag) (P : Program) (w : World) (td ty : TE) : TE := fun σ H Q => td σ H fun x H1 => ∃ a kvs, x = .ref a ∧ DN K P w H1 a kvs ∧ ty σ H1 fun y H2 => ∃ b k, y = .ref b ∧ DN K P w H2 a kvs ∧ SqT K H2 b (k.map V.int) ∧ Q ((valV kvs k).getD .non) H2
def tNGet2 (K : PySem.W.Frag) (P : Program) (w : World) (td ty tx : TE) : TE := fun σ H Q => td σ H fun x H1 => ∃ a kvs, x = .ref a ∧ DN K P w H1 a kvs ∧ ty σ H1 fun y H2 => tx σ H2 fun z H3 => ∃ b k, y = .ref b ∧ DN K P w H3 a kvs ∧ SqT K H3 b (k.map V.int) ∧ Q ((valV kvs k).getD z) H3
section
variable {X : Cx} {K : PySem.W.Frag} {P : Program} {w : World} {o i e f value : Expr} {pos pos' tpos apos cpos : Pos} {td ty tv tx : TE}
theorem pe_nget (hK : X.K = K) (hP : X.prog = P) (hw : X.w = w) (hu : X.A.units + 1 < cLine) (ho : PE X o td) (hi : PE X i ty) (hs : NoSl i) : PE X (.Subscript o i pos) (tNGet K P w td ty) := by
  subst hK hP hw
  refine ⟨fun pins s σ H Q I h => ?_⟩
  refine subD_of PySem.F.slot_dict_getitem.lookup hs (thn (ho.run pins s σ H _ I h) fun u s1 ⟨x, H1, I1, rx, q1⟩ => thn (hi.run pins s1 σ H1 _ I1 q1) fun iv s2 ⟨y, H2, I2, ry, a, b, kvs, k, v, ex, ey, g, hk, hv, q2⟩ => ?_)
  subst ex ey
  obtain rfl : u = Value.ref a := rx
  obtain rfl : iv = Value.ref b := ry
  exact ⟨g.typeIs I2, n_getItem hu I2 g hk hv fun w' s3 I3 rw' => ⟨v, H2, I3, rw', q2⟩⟩
theorem pc_nin (hK : X.K = K) (hP : X.prog = P) (hw : X.w = w) (hu : X.A.units + 1 < cLine) (hi : PE X i ty) (ho : PE X o td) : PC X .In i o (tNIn K P w ty td) := by
  subst hK hP hw
  refine ⟨fun pins s σ H Q I h => ?_⟩
  refine thn (hi.run pins s σ H _ I h) fun iv s1 ⟨y, H1, I1, ry, q1⟩ => thn (ho.run pins s1 σ H1 _ I1 q1) fun u s2 ⟨x, H2, I2, rx, a, b, kvs, k, ex, ey, g, hk, q2⟩ => ?_
  subst ex ey
  obtain rfl : u = Value.ref a := rx
  obtain rfl : iv = Value.ref b := ry
  exact n_in hu I2 g hk fun s3 I3 => ⟨.bl _, H2, I3, rfl, q2⟩
theorem pc_nnotin (hK : X.K = K) (hP : X.prog = P) (hw : X.w = w) (hu : X.A.units + 1 < cLine) (hi : PE X i ty) (ho : PE X o td) : PC X .NotIn i o (tNNotIn K P w ty td) := by
  subst hK hP hw
  refine ⟨fun pins s σ H Q I h => ?_⟩
  refine thn (hi.run pins s σ H _ I h) fun iv s1 ⟨y, H1, I1, ry, q1⟩ => thn (ho.run pins s1 σ H1 _ I1 q1) fun u s2 ⟨x, H2, I2, rx, a, b, kvs, k, ex, ey, g, hk, q2⟩ => ?_
  subst ex ey
  obtain rfl : u = Value.ref a := rx
  obtain rfl : iv = Value.ref b := ry
  exact n_notIn hu I2 g hk fun s3 I3 => ⟨.bl _, H2, I3, rfl, q2⟩
theorem ps_nput (hK : X.K = K) (hP : X.prog = P) (hw : X.w = w) (hu : X.A.units + 1 < cLine) (ho : PE X o td) (hi : PE X i ty) (hv : PE X value tv) (hs : swapsWith value (some (.Subscript o i pos')) pos.line X.env = pure false) :
    PS X (.Assign [.Subscript o i pos'] value pos) (sNPut K P w td ty tv) := by
  subst hK hP hw
  refine ⟨fun pins s σ H D I h => ?_⟩
  refine wpAny_Assign_Subscript (thn (hv.run pins s σ H _ I h) fun r s1 ⟨v, H1, I1, rv, q1⟩ => thn (ho.run pins s1 σ H1 _ I1 q1) fun u s2 ⟨x, H2, I2, rx, q2⟩ => thn (hi.run pins s2 σ H2 _ I2 q2) fun iv s3 ⟨y, H3, I3, ry, a, b, kvs, k, ex, ey, g, hk, hl, q3⟩ => ?_) hs
  subst ex ey
  obtain rfl : u = Value.ref a := rx
  obtain rfl : iv = Value.ref b := ry
  exact n_setItem hu I3 g hk hl rv fun H' h1 h2 h3 s4 I4 => ⟨σ, H', I4, q3 H' h1 h2 h3⟩
theorem pe_nget1 (hK : X.K = K) (hP : X.prog = P) (hw : X.w = w) (hu : X.A.units + 1 < cLine) (ho : PE X o td) (he : PE X e ty) (m : M1 X o "get" apos e cpos) : PE X (.Call (.Attribute o "get" apos) [e] [] cpos) (tNGet1 K P w td ty) := by
  subst hK hP hw
  refine ⟨fun pins s σ H Q I h => ?_⟩
  refine wpAny_Call_method m.base m.few m.line PySem.F.plainAttrs_dict PySem.F.slot_dict_get PySem.F.type_dict_get (thn (ho.run pins s σ H _ I h) fun u s1 ⟨x, H1, I1, rx, a, kvs, ex, d, q1⟩ => ?_)
  subst ex
  obtain rfl : u = Value.ref a := rx
  refine ⟨d.typeIs I1, d.noDict I1, ?_⟩
  rw [m.trees]
  refine Calls.callWith_builtin rfl (Calls.evalArgs_plain (Calls.spliced_cons (thn (he.run pins s1 σ H1 _ I1 q1) fun iv s2 ⟨y, H2, I2, ry, b, k, ey, g, hk, q2⟩ => Calls.spliced_nil ?_)))
  subst ey
  obtain rfl : iv = Value.ref b := ry
  exact n_get1 hu I2 g hk fun w' s3 I3 rw' => ⟨_, H2, I3, rw', q2⟩
theorem pe_nget2 (hK : X.K = K) (hP : X.prog = P) (hw : X.w = w) (hu : X.A.units + 1 < cLine) (ho : PE X o td) (he : PE X e ty) (hf : PE X f tx) (m : M2 X o "get" apos e f cpos) : PE X (.Call (.Attribute o "get" apos) [e, f] [] cpos) (tNGet2 K P w td ty tx) := by
  subst hK hP hw
  refine ⟨fun pins s σ H Q I h => ?_⟩
  refine wpAny_Call_method m.base m.few m.line PySem.F.plainAttrs_dict PySem.F.slot_dict_get PySem.F.type_dict_get (thn (ho.run pins s σ H _ I h) fun u s1 ⟨x, H1, I1, rx, a, kvs, ex, d, q1⟩ => ?_)
  subst ex
  obtain rfl : u = Value.ref a := rx
  refine ⟨d.typeIs I1, d.noDict I1, ?_⟩
  rw [m.trees]
  refine Calls.callWith_builtin rfl (Calls.evalArgs_plain (Calls.spliced_cons (thn (he.run pins s1 σ H1 _ I1 q1) fun iv s2 ⟨y, H2, I2, ry, q2⟩ =>
    Calls.spliced_cons (thn (hf.run pins s2 σ H2 _ I2 q2) fun fv s3 ⟨z, H3, I3, rz, b, k, ey, g, hk, q3⟩ => Calls.spliced_nil ?_))))
  subst ey
  obtain rfl : iv = Value.ref b := ry
  exact n_get2 hu I3 g hk rz fun w' s4 I4 rw' => ⟨_, H3, I4, rw', q3⟩
end
theorem u2_of {A : Around} {k : Nat} (hr : Room k A) : A.units + 2 < cLine := Nat.lt_of_le_of_lt (Nat.add_le_add_left (by decide : 2 ≤ 64) _) hr.units
/-! ### {} and dict(list of pairs) -/
theorem dx_empty {P : Program} {w : World} (h : Heap) (hb : sysModules < h.objs.size) : DX0 P w (h.push { cls := .type "dict", data := .dict #[] }) h.objs.size [] :=
  ⟨Nat.zero_le _, beq_eq_false_iff_ne.mpr (Ne.symm (Nat.ne_of_lt hb)), [], .nil, _, #[], 0, Heap.get?_push_size _ rfl, ⟨rfl, rfl, rfl⟩, rfl, rfl, List.nodup_nil⟩
def tNNew (K : PySem.W.Frag) (P : Program) (w : World) : TE := fun _ H Q => ∀ p H', H p = none → Same H H' → DN K P w H' p [] → Q (.ref p) H'
theorem pe_nnew {X : Cx} {K : PySem.W.Frag} {P : Program} {w : World} {pos : Pos} (hK : X.K = K) (hP : X.prog = P) (hw : X.w = w) : PE X (.Dict [] [] pos) (tNNew K P w) := by
  subst hK hP hw
  refine ⟨fun pins s σ H Q I h => ?_⟩
  have hn : H s.heap.objs.size = none := I.hok.fresh (Nat.le_refl _)
  exact wpAny_Dict_empty ⟨.ref s.heap.objs.size, _, I.laid (a := s.heap.objs.size) (o := DXO X.prog X.w s.heap.objs.size []) (t' := s.toks) (fun _ _ q => Heap.get?_push_of_some _ q) (Nat.le_refl _) (dx_new (dx_empty s.heap I.big)), rfl, h _ _ hn (same_upd hn) ⟨[], upd_same, (fun x hx => nomatch hx), rfl⟩⟩
def mergeT (kvs more : List (List Int × V)) : List (List Int × V) := more.foldl (fun acc kv => putK acc kv.1 kv.2) kvs
def allX (L M : KX) : KX := M.foldl (fun acc p => putX acc p.1 p.2.1 p.2.2) L
theorem RX.all {M : KX} {ms : List (List Int × Addr × Value)} (r : RX M ms) : ∀ {L : KX} {xs : List (List Int × Addr × Value)}, RX L xs → RX (allX L M) (storedAllH xs ms) := by
  unfold RX at r
  induction r with
  | nil => intro L xs q; exact q
  | @cons p q ps qs h t ih =>
    intro L xs hq
    show RX (allX (putX L p.1 p.2.1 p.2.2) ps) (storedAllH (storedH xs q.1 q.2.1 q.2.2) qs)
    rw [← h.1, ← h.2.1]
    exact ih (hq.put _ h.2.2)
theorem kvX_all : ∀ (M L : KX), kvX (allX L M) = mergeT (kvX L) (kvX M)
  | [], _ => rfl
  | p :: M, L => by
    show kvX (allX (putX L p.1 p.2.1 p.2.2) M) = mergeT (putK (kvX L) p.1 p.2.2) (kvX M)
    rw [kvX_all M, kvX_put]
theorem allX_key {Pr : List Int → Addr → Prop} : ∀ {M L : KX}, (∀ x ∈ L, Pr x.1 x.2.1) → (∀ x ∈ M, Pr x.1 x.2.1) → ∀ x ∈ allX L M, Pr x.1 x.2.1
  | [], _, h, _ => h
  | p :: M, L, h, hp => allX_key (M := M) (L := putX L p.1 p.2.1 p.2.2) (fun x hx => by
      rcases putX_key hx with ⟨y, hy, e1, e2⟩ | ⟨e1, e2⟩
      · rw [e1, e2]; exact h y hy
      · rw [e1, e2]; exact hp p List.mem_cons_self) fun x hx => hp x (List.mem_cons_of_mem _ hx)
theorem putX_len (L : KX) (k : List Int) (b : Addr) (v : V) : (putX L k b v).length ≤ L.length + 1 := by
  unfold putX
  split <;> simp
theorem allX_len : ∀ (M L : KX), (allX L M).length ≤ L.length + M.length
  | [], _ => Nat.le_refl _
  | p :: M, L => by
    have h1 := allX_len M (putX L p.1 p.2.1 p.2.2)
    have h2 := putX_len L p.1 p.2.1 p.2.2
    show (allX (putX L p.1 p.2.1 p.2.2) M).length ≤ _
    simp only [List.length_cons]
    omega
/-- a list of pairs (tuple of ints, value) -/
def rDictT (K : PySem.W.Frag) (P : Program) (w : World) : List V → Hp → VK → Prop := fun xs H Q => ∃ (a : Addr) (ts : List Addr) (M : KX), xs = [V.ref a] ∧ SqL K H a (ts.map V.ref) ∧ Paired (fun t m => SqT K H t [V.ref m.2.1, m.2.2] ∧ SqT K H m.2.1 (m.1.map V.int)) ts M ∧
  ∀ p H', H p = none → Same H H' → DN K P w H' p (mergeT [] (kvX M)) → Q (.ref p) H'
theorem pairsT_of {X : Cx} {pins : List (Addr × Obj)} {σ : L2.St} {H : Hp} {s : Shared} (I : Inv X pins σ H s) : ∀ {ts : List Addr} {M : KX}, Paired (fun t m => SqT X.K H t [V.ref m.2.1, m.2.2] ∧ SqT X.K H m.2.1 (m.1.map V.int)) ts M →
    ∃ ms : List (List Int × Addr × Value), RX M ms ∧ ms.length = ts.length ∧ ∀ (j : Nat) (q : List Int × Addr × Value), ms[j]? = some q → ∃ t, ts[j]? = some t ∧ IsTup s.heap t #[Value.ref q.2.1, q.2.2] ∧ IsT X.prog X.w s.heap q.1 q.2.1
  | _, _, .nil => ⟨[], .nil, rfl, fun j q e => by simp at e⟩
  | _, _, .cons (a := p) (b := m) h t => by
    obtain ⟨ms, r, hl, hp⟩ := pairsT_of I t
    obtain ⟨its, rv, ht, _⟩ := I.tuple h.1
    obtain ⟨u, y, ei, ru, ry⟩ := vals2 rv
    subst ei
    cases ru
    refine ⟨(m.1, m.2.1, y) :: ms, .cons ⟨rfl, rfl, ry⟩ r, by rw [List.length_cons, List.length_cons, hl], fun j q e => ?_⟩
    cases j with
    | zero =>
      have e' : (m.1, m.2.1, y) = q := Option.some.inj e
      subst e'
      exact ⟨p, rfl, ht, I.isT h.2⟩
    | succ j =>
      obtain ⟨b, e1, e2, e3⟩ := hp j q (by simpa using e)
      exact ⟨b, by simpa using e1, e2, e3⟩
theorem call_dictT {X : Cx} {K : PySem.W.Frag} {P : Program} {w : World} (hK : X.K = K) (hP : X.prog = P) (hw : X.w = w) (hcalm : X.calm = true) (hu : X.A.units + 2 < cLine) : CallR X (.type "dict") (rDictT K P w) := by
  subst hK hP hw
  intro pins s σ H xs us Q I r q
  obtain ⟨a, ts, M, ex, hq, hp, q⟩ := q
  subst ex
  obtain ⟨u, eu, rx⟩ := vals1 r
  subst eu
  cases rx
  obtain ⟨its, rv, pl, hz⟩ := I.list hq
  have ei := refs_at rv
  subst ei
  rw [List.length_map] at hz
  obtain ⟨ms, rel, hl, hpr⟩ := pairsT_of I hp
  obtain ⟨o, n, ho, hc, hd, hdat⟩ := pl
  have hmsM := rel.len
  have isAll : ∀ x ∈ ms, (tupleKind (intKind X.prog X.w)).is s.heap x.1 x.2.1 := fun x hx => by
    obtain ⟨j, hj⟩ := List.mem_iff_getElem?.mp hx
    obtain ⟨t, _, _, h3⟩ := hpr j x hj
    exact h3
  have hn : H s.heap.objs.size = none := I.hok.fresh (Nat.le_refl _)
  refine call_dict_pairsH (knd := tupleKind (intKind X.prog X.w)) (ps := ms) (PairArg.list a (ts.map Value.ref).toArray (fun j => ts.getD j 0) (ms.map fun m => (Value.ref m.2.1, m.2.2))) (I.ok.hd hcalm) ?_ ⟨⟨o, n, ho, hc, hd, hdat⟩, ?_, ?_⟩ ⟨?_, ?_⟩ (fun h' hk x hx => ?_) ?_ fun h' tk hd' hk => ?_
  · show X.A.in1.units + 1 < cLine
    exact hu
  · simp [hl]
  · intro j k v hj
    rw [List.getElem?_map, Option.map_eq_some_iff] at hj
    obtain ⟨m, hm, em⟩ := hj
    cases em
    obtain ⟨t, e1, e2, e3⟩ := hpr j m hm
    have et : ts.getD j 0 = t := by rw [List.getD_eq_getElem?_getD, e1]; rfl
    dsimp only
    rw [et]
    refine ⟨by simp [e1], ?_⟩
    exact .inl e2
  · simp
  · intro i key v hr
    rw [PairRel, List.getElem?_map, Option.map_eq_some_iff] at hr
    obtain ⟨m, hm, em⟩ := hr
    cases em
    exact ⟨m.1, m.2.1, hm, rfl⟩
  · have := isAll x hx
    obtain ⟨o', items, n', ho', hc', hd', hi'⟩ := (show IsTupleKey (intKind X.prog X.w) s.heap x.1 x.2.1 from this)
    exact ⟨o', items, n', hk _ _ (Nat.ne_of_lt (Heap.lt_size ho')) (fun z => nomatch z) ho', hc', hd', hi'⟩
  · rw [List.length_map, hl]; exact hz
  · have hm : (s.heap.objs.size == sysModules) = false := beq_eq_false_iff_ne.mpr (Nat.ne_of_gt I.big)
    have hlen : (allX [] M).length ≤ sizeLine := by
      refine Nat.le_trans (allX_len M []) ?_
      rw [List.length_nil, Nat.zero_add, hmsM, hl]
      exact hz
    obtain ⟨o', es, ep, h1, h2, h3, h4, _, h5⟩ := hd'
    have I2 := I.laid (t' := tk) (fun b u e => hk b u (fun z => nomatch z) e) (Nat.le_refl _) (dx_new (H := upd H s.heap.objs.size (DXO X.prog X.w s.heap.objs.size (allX [] M))) (P := X.prog) (w := X.w) (h := h') (d := s.heap.objs.size) (L := allX [] M) ⟨hlen, hm, _, RX.all rel .nil, o', es, ep, h1, h2, h3, h4, h5⟩)
    refine ⟨.ref s.heap.objs.size, _, I2, rfl, q _ _ hn (same_upd hn) ⟨allX [] M, upd_same, ?_, kvX_all M []⟩⟩
    refine allX_key (Pr := fun k b => SqT X.K (upd H s.heap.objs.size (DXO X.prog X.w s.heap.objs.size (allX [] M))) b (k.map V.int)) (fun x hx => nomatch hx) fun x hx => ?_
    have fnd : ∀ {ts : List Addr} {M : KX}, Paired (fun t m => SqT X.K H t [V.ref m.2.1, m.2.2] ∧ SqT X.K H m.2.1 (m.1.map V.int)) ts M → ∀ x ∈ M, SqT X.K H x.2.1 (x.1.map V.int) := by
      intro ts M hp
      induction hp with
      | nil => intro x hx; exact nomatch hx
      | @cons p q ps qs h t ih =>
        intro x hx
        rcases List.mem_cons.mp hx with e | hx
        · subst e; exact h.2
        · exact ih x hx
    exact Same.tup (same_upd hn) (fnd hp x hx)
end MB

set_option maxHeartbeats 4000000
namespace MB
open PySem PySem.Spec PyProof.Rows L2
/-! ### a list from a place back to its start: xs[i::-1] -/
theorem bounds_from {n i : Nat} (h : i < n) : sliceBounds (some (i : Int)) none (some (-1)) n = ((i : Int), -1, -1) := by
  unfold sliceBounds
  have h1 : ¬ ((-1 : Int) > 0) := by decide
  have h2 : ¬ ((i : Int) < 0) := by omega
  simp only [Option.getD_some, h1, if_false, h2]
  congr 1
  omega
theorem pick_from (items : Array Value) {i : Nat} (h : i < items.size) : slicePick items (some (i : Int)) none (some (-1)) = (items.toList.take (i + 1)).reverse.toArray := by
  unfold slicePick
  rw [bounds_from h]
  show ((sliceRange (i : Int) (-1) (-1)).filterMap (items[·]?)).toArray = _
  have e1 : (i : Int) = ((i + 1 : Nat) : Int) - 1 := by omega
  rw [e1, PySem.W.krv_sliceRange, PySem.W.krv_range, List.filterMap_reverse]
  congr 2
  have h2 := pick_run items 0 (i + 1)
  have e : (List.range (i + 1)).map (0 + ·) = List.range (i + 1) := by
    rw [show ((0 + ·) : Nat → Nat) = id from funext fun k => Nat.zero_add k, List.map_id]
  rw [e, List.drop_zero] at h2
  exact h2
theorem vals_take : ∀ {xs : List V} {us : List Value} (n : Nat), Vals xs us → Vals (xs.take n) (us.take n)
  | _, _, 0, _ => .nil
  | _, _, _ + 1, .nil => .nil
  | _, _, n + 1, .cons a b => .cons a (vals_take n b)
def tRevF (K : PySem.W.Frag) (te ti : TE) : TE := fun σ H Q => te σ H fun x H1 => tPart ti σ H1 fun o H2 => ∃ (a : Addr) (xs : List V) (i : Nat), x = .ref a ∧ o = some (i : Int) ∧ SqL K H2 a xs ∧ i < xs.length ∧ ∀ p, H2 p = none → Q (.ref p) (upd H2 p (.lst (xs.take (i + 1)).reverse))
theorem pe_revF {X : Cx} {K : PySem.W.Frag} (hK : X.K = K) {e ei : Expr} {te ti : TE} {k : Nat} {p1 p2 p3 pos : PySem.Pos} (he : PE X e te) (hi : PE X ei ti) : PE X (.Subscript e (.Slice (some ei) none (some (.UnaryOp .USub (.Constant (.int 1) k p1) p2)) p3) pos) (tRevF K te ti) := by
  subst hK
  refine ⟨fun pins s σ H Q I h => ?_⟩
  refine Subscript_ (thn (he.run pins s σ H _ I h) fun v s1 ⟨x, H1, I1, r1, q1⟩ => ?_)
  have hst : PO X (some (.UnaryOp .USub (.Constant (.int 1) k p1) p2)) (tPart (tUn (rU fun i => .int (-i)) (tC (.int 1)))) := po_some (pe_un un_neg pe_int)
  have hlo : PO X (some ei) (tPart ti) := po_some hi
  refine wpAny_Slice (thn (hlo.run pins s1 σ H1 _ I1 q1) fun vl s2 ⟨lo, H2, I2, pl, a, xs, i, ex, elo, hx, hi', q⟩ => ?_)
  cases elo
  cases ex
  cases r1
  refine thn (po_none.run pins s2 σ H2 (fun o H3 => o = none ∧ H3 = H2) I2 ⟨rfl, rfl⟩) fun vu s3 ⟨hi2, H3, I3, pu, ehi, eH⟩ => ?_
  cases ehi; cases eH
  refine thn (hst.run pins s3 σ H2 (fun o H4 => o = some (-1) ∧ H4 = H2) I3 ⟨1, rfl, -1, rfl, rfl, rfl⟩) fun vs s4 ⟨st, H4, I4, ps, est, eH⟩ => ?_
  cases est; cases eH
  have I5 : Inv X pins σ H2 { s4 with heap := s4.heap.push { cls := .type "slice", data := .fields #[vl, vu, vs] } } := I4.kept (t' := s4.toks) fun b ob e => Heap.get?_push_of_some _ e
  obtain ⟨its, r, ht, hz⟩ := I5.list hx
  have hlen := r.length
  show wpAny (model X.prog X.w) X.A (subscriptTail e (.Slice (some ei) none (some (.UnaryOp .USub (.Constant (.int 1) k p1) p2)) p3) (.ref a) (.ref s4.heap.objs.size)) (EP X pins σ Q) X.xe { s4 with heap := s4.heap.push { cls := .type "slice", data := .fields #[vl, vu, vs] } }
  refine tail_any (ops := [.ref a, .ref s4.heap.objs.size]) ht.isList.typeIs (PySem.slot_list_getitem.lookup) ?_ (by with_unfolding_all rfl)
  refine wpAny_getItem_list_slice ht.isList (Heap.IsSliceOf.new _ vl vu vs) pl pu ps (by decide) ?_ (by rw [List.size_toArray]; omega)
  rw [pick_from its.toArray (by rw [List.size_toArray]; omega)]
  refine ⟨.ref _, _, I5.laid (t' := s4.toks) (o := .lst (xs.take (i + 1)).reverse) (fun b ob q => Heap.get?_push_of_some _ q) (Nat.le_refl _) ?_, rfl, q _ (I5.hok.fresh (Nat.le_refl _))⟩
  exact ⟨by rw [List.length_reverse, List.length_take]; omega, _, 0, (vals_take (i + 1) r).reverse, Heap.get?_push_size _ rfl⟩
end MB

set_option maxHeartbeats 4000000
namespace MB
open PySem PySem.Spec PyProof.Rows L2

/-! ### a def called where no repr is under way -/
structure FnG (P : Program) (w : World) (K : PySem.W.Frag) (mg : Str → Option Value) (base : Heap) (CX : CXT) (k : Nat) (f : Addr) (fd : FuncData) (ps : List Str) (sp : Sp) : Prop where
  len : ∀ vs H Q E, sp vs H Q E → vs.length = ps.length
  run : ∀ (A : Around), A.guards = some [] → Room k A → ∀ (outer : List Env) (s : Shared) (H : Hp) (args : Args) (us : List Value) (vs : List V) (Q : VK) (E : XK),
    Env0 P w K mg base A outer s H → BindsTo s fd args (ps.zip us) → Vals vs us → sp vs H Q E → codeAny (model P w) A (.call (.ref f) args) (CR CX outer P w H s Q E) s
section
variable {P : Program} {w : World} {K : PySem.W.Frag} {mg : Str → Option Value} {base : Heap} {CX : CXT} {k : Nat} {f : Addr} {fd : FuncData} {ps : List Str} {sp : Sp}
theorem FnG.of (F : FnOk P w K mg base CX k f fd ps sp) : FnG P w K mg base CX k f fd ps sp :=
  ⟨F.len, fun A _ hr outer s H args us vs Q E => F.run A outer s H args us vs Q E hr⟩
theorem deeper_guards {A : Around} {env : Env} (h : A.guards = some []) : (A.deeper env).guards = some [] := h
theorem fnG_of {name qual : Str} {params : Arguments} {body : List Stmt} {scope : Scope} {dV kV doc pm cdv ct oc : Value} {an od : Option Addr} {osl : Array (Option Value)} {N : List Str}
    (lk : K.lookup f = some ⟨oc, od, .func (PySem.W.fnOf name qual params body scope dV kV doc pm an cdv ct), osl⟩) (hcd : PySem.W.codeIn K cdv qual = true) (S : FnScope N ps scope)
    (len : ∀ vs H Q E, sp vs H Q E → vs.length = ps.length)
    (hbody : ∀ (A : Around), A.guards = some [] → ∀ (outer : List Env) (s : Shared) (H : Hp) (vs : List V) (Q : VK) (E : XK), Room k (A.deeper (envOfC qual scope s.heap.objs.size f cdv)) → sp vs H Q E →
      ∃ t, PSs (cxOf CX P w K mg base N qual scope f cdv A outer s H E) body t ∧ t { nx := fun _ H' => Q .non H', rt := Q } (start N vs) H) :
    FnG P w K mg base CX (k + 1) f (PySem.W.fnOf name qual params body scope dV kV doc pm an cdv ct) ps sp := by
  refine ⟨len, fun A hgd hr outer s H args us vs Q E e0 hb r hsp => ?_⟩
  have kept : ∀ b o, base.get? b = some o → s.heap.get? b = some o := fun b o e => (e0.bs b o e).1
  have KX : K.In s.heap := e0.mod.kin.keeps kept
  obtain ⟨t, ht, hq⟩ := hbody A hgd outer s H vs Q E (hr.deeper _) hsp
  have par : ∀ y ∈ ps.zip us, scope.names.lookup y.1 = some .local ∨ (scope.names.lookup y.1 = some .cell ∧ ((cellsFrom (s.heap.objs.size + 1) scope.names []).lookup y.1).isSome = true) := by
    rintro ⟨n, v⟩ hy
    exact (S.par n (List.of_mem_zip hy).1).imp id fun z => ⟨z, PySem.W.cellsFrom_some _ _ _ (.inl z)⟩
  refine codeAny_call_function hr.depth (KX _ _ lk) rfl S.co S.gen rfl (PySem.W.codeRec_of KX hcd) (hb _ _ _ _ (wpAny_newFunctionEnv_cells S.kind par fun env he s1 x => ?_))
  subst he
  refine ⟨(e0.mod.nolimit.keeps kept).keeps x.toInCall.keep, codeAny_func (wpAny_mono (ht.run [] s1 (start N vs) H _ (inv_start S hr.hd e0 (len _ _ _ _ hsp) r x) hq) (fun fl s' hs => ?_) fun e s' hs => hs)⟩
  rcases fl with _ | _ | _ | u
  · obtain ⟨σ', H', J, q⟩ := hs
    exact ⟨V.non, H', J.os, J.bare, J.base, J.hok, rfl, q⟩
  · exact (let ⟨_, _, _, q⟩ := hs; False.elim q)
  · exact (let ⟨_, _, _, q⟩ := hs; False.elim q)
  · obtain ⟨v, σ', H', J, rv, q⟩ := hs
    exact ⟨v, H', J.os, J.bare, J.base, J.hok, rv, q⟩
theorem Fun.okG {x qual : Str} {st : Stmt} {N : List Str} (F : L2.Fun K x qual st f fd) (S : FnScope N ps (defScope st)) (len : ∀ vs H Q E, sp vs H Q E → vs.length = ps.length)
    (hbody : ∀ (cdv : Value) (A : Around), A.guards = some [] → ∀ (outer : List Env) (s : Shared) (H : Hp) (vs : List V) (Q : VK) (E : XK), Room k (A.deeper (envOfC qual (defScope st) s.heap.objs.size f cdv)) → sp vs H Q E →
      ∃ t, PSs (cxOf CX0 P w K mg base N qual (defScope st) f cdv A outer s H E).nox (defBody st) t ∧ t { nx := fun _ H' => Q .non H', rt := Q } (start N vs) H) : FnG P w K mg base CX0 (k + 1) f fd ps sp := by
  obtain ⟨oc, od, kV, doc, pm, an, cdv, ct, osl, rfl, lk, hcd⟩ := F.ex
  exact fnG_of lk hcd S len fun A hgd outer s H vs Q E hr hsp => let ⟨t, h, q⟩ := hbody cdv A hgd outer s H vs Q E hr hsp; ⟨t, h.nox, q⟩
end
section
variable {X : Cx} {CX : CXT} {k : Nat} {f : Addr} {fd : FuncData} {ps : List Str} {sp : Sp} {ds : List Value} {dvs : List V} {E : XK} {x : Str} {p pos : Pos} {e : Expr} {es : List Expr} {t : TA}
theorem pe_callG (F : FnG X.prog X.w X.K X.mg X.base CX k f fd ps sp) (hgd : X.A.guards = some []) (hr : Room k X.A) (hg : Gl X x) (hm : X.mg x = some (.ref f)) (hk : PySem.W.keepIn X.K (.ref f) = true) (hb : Binds X.K fd ps ds) (hd : Vals dvs ds) (hx : Passes CX X E)
    (ha : PA X (e :: es) t) (hdb : (x == ("__debug__" : Str)) = false := by decide) (he : starEach (e :: es) X.env = (false, eval e X.env) :: starEach es X.env := by rfl) (hpl : (backTo pos (starEach es X.env)).any (·.1) = false := by rfl) :
    PE X (.Call (.Name x p) (e :: es) [] pos) (tCall sp dvs E t) := by
  refine ⟨fun pins s σ H Q I h => wpAny_Call_Name_kw (ld_glob I hg hm (PySem.W.callWith_K (h₀ := X.base) I.ok.mod.kin hk (thn (ha.run pos pins s σ H _ I h) fun us s1 ⟨vs, H1, I1, r, q⟩ => ⟨I1.kIn, ?_⟩) he hpl) hdb)⟩
  have r2 : Vals (vs ++ dvs) (us ++ ds) := r.append hd
  have hl : (us ++ ds).length = ps.length := r2.length.symm.trans (F.len _ _ _ _ q)
  refine wpAny_call (codeAny_mono (F.run X.A hgd hr X.stack s1 H1 ⟨us, []⟩ (us ++ ds) (vs ++ dvs) Q E I1.env0 (hb s1 us I1.kIn hl) r2 q) fun res s' hq => ?_)
  rcases res with e | fl
  · exact hx pins σ H1 s1 e s' I1 hq
  · rcases fl with _ | _ | _ | u
    · exact False.elim hq
    · exact False.elim hq
    · exact False.elim hq
    · exact I1.after hq
end

/-! ### repr of plain data -/
def rReprD (K : PySem.W.Frag) : List V → Hp → VK → Prop := fun xs H Q => ∃ (x : V) (d : PyData), xs = [x] ∧ Dp K H x d ∧ d.canLay0 = true ∧ d.showable = true ∧ d.depth ≤ 60 ∧ d.shown.length ≤ sizeLine ∧ Q (.str d.shown) H
theorem call_reprD {X : Cx} (hgd : X.A.guards = some []) (hu : X.A.units + 64 < cLine) : CallR X (.builtin "repr") (rReprD X.K) := by
  intro pins s σ H xs us Q I r h
  obtain ⟨x, d, rfl, hd, hc, hs, hdep, hz, q⟩ := h
  obtain ⟨u, rfl, rx⟩ := vals1 r
  obtain ⟨as, rd⟩ := Dp.reads I d x u hd rx
  have nd := PyData.hasDict_of_canLay d hc
  have fin : ∀ (h' : Heap) (v tk : Tok), (∀ b o, s.heap.get? b = some o → h'.get? b = some o) → EP X pins σ Q (.str d.shown v) { s with heap := h', toks := tk } := fun h' v tk hk => ⟨.str d.shown, H, I.kept hk, ⟨_, rfl⟩, q⟩
  cases rd with
  | none => exact PySem.P.repr_of_none (fin _ _ _ fun _ _ e => e)
  | bool b =>
    refine PySem.P.repr_of_bool ?_
    cases b <;> exact fin s.heap s.toks (s.toks + 1) fun _ _ e => e
  | int i t => exact PySem.P.repr_of_int (by simpa [PyData.showable] using hs) (fin s.heap s.toks (s.toks + 1) fun _ _ e => e)
  | str y t => exact PySem.P.repr_of_str (fin s.heap s.toks (s.toks + 1) fun _ _ e => e) hz
  | list h1 h2 h3 h4 => exact repr_of_reads' (.list h1 h2 h3 h4) hs (PyData.noDict_hsm nd) hgd (by omega) (fun _ _ e => e) fin hz
  | tuple h1 h2 h3 h4 => exact repr_of_reads' (.tuple h1 h2 h3 h4) hs (PyData.noDict_hsm nd) hgd (by omega) (fun _ _ e => e) fin hz
  | dict h1 h2 h3 h4 h5 => simp [PyData.canLay0] at hc

/-! ### the end: a law whose promise asks that no repr is under way -/
theorem law_callG {P : Program} {w : World} {K : PySem.W.Frag} {mg mb : Str → Option Value} {k : Nat} {fa a : Addr} {fd : FuncData} {x : Str} {sp : Sp} {s₁ : Shared} {vs : List Value} {ns : List Int}
    (KX : K.In s₁.heap) (hns : s₁.heap.Ns mainGlobals mg) (hb : s₁.heap.Ns builtinsNs mb) (hbb : ∀ x : Str, x ≠ "__name__" → mb x = bootBuiltins x) (hlim : s₁.heap.NoLimit) (hg : s₁.gens = #[])
    (ha : s₁.heap.get? a = some { cls := .type "list", data := .seq vs.toArray }) (hi : IntsAre vs ns) (hl : ns.length ≤ sizeLine) (hr : Room k callerA)
    (F : ∀ base : Heap, K.In base → base.Ns mainGlobals mg → FnG P w K mg base CX0 k fa fd [x] sp) (hbind : ∀ (s : Shared) (u : Value), BindsTo s fd ⟨[u], []⟩ [(x, u)])
    (hsp : ∀ H : Hp, SqL K H a (ns.map V.int) → sp [.ref a] H (fun v _ => v = .bl true) fun _ _ _ => False) :
    codeAny (model P w) callerA (.call (.ref fa) ⟨[.ref a], []⟩) (fun r s' => r = .ok (.ret (.bool true)) ∧ OldK s₁.heap s'.heap ∧ s'.os = s₁.os ∧ AllBare s'.gens) s₁ := by
  let oS : Obj := { cls := .type "list", data := .seq vs.toArray }
  -- the script is tracked as it stands, unless it is one of the module's own objects
  let H : Hp := fun b => if b = a ∧ K.lookup a = none then some (.frz oS (.lst (ns.map V.int))) else none
  have rv := vals_ints hi
  have Hsome : ∀ {b : Addr} {o : HO}, H b = some o → b = a ∧ K.lookup a = none ∧ o = .frz oS (.lst (ns.map V.int)) := fun {b o} e => by
    by_cases c : b = a ∧ K.lookup a = none
    · have e' := (if_pos c).symm.trans e
      exact ⟨c.1, c.2, (Option.some.inj e').symm⟩
    · have e' := (if_neg c).symm.trans e
      cases e'
  have free : ∀ {b : Addr}, (∀ z : b = a, K.lookup a ≠ none) → H b = none := fun {b} n => if_neg fun c => n c.1 c.2
  have hS : SqL K H a (ns.map V.int) := by
    cases hk : K.lookup a with
    | none => exact .inl (.inr ⟨oS, if_pos ⟨rfl, hk⟩⟩)
    | some o =>
      have e := (KX a o hk).symm.trans ha
      cases e
      exact .inr ⟨_, vs.toArray, _, hk, rfl, rfl, rfl, by rw [List.size_toArray, hi.length]; exact hl, by simpa using rv⟩
  have hok : HOk P w H s₁.heap := fun b o e => by
    obtain ⟨rfl, _, rfl⟩ := Hsome e
    exact ⟨ha, by rw [List.length_map]; exact hl, vs, _, rv, ha⟩
  have noDict : ∀ {b : Addr} {o : Obj} {es : Array DictEntry} {ep : Nat}, s₁.heap.get? b = some o → o.data = .dict es ep → H b = none := fun {b o es ep} e d => free fun z => by
    subst z
    rw [ha] at e
    cases e
    cases d
  have ns_hid : ∀ {b : Addr} {m : Str → Option Value}, s₁.heap.Ns b m → (hidT s₁.heap H).Ns b m := fun {b m} ⟨o, es, ep, e, d, r⟩ => ⟨o, es, ep, hidT_get e (noDict e d), d, r⟩
  have hKb : K.In (hidT s₁.heap H) := fun b o e => hidT_get (KX b o e) (free fun z => by subst z; rw [e]; exact fun y => nomatch y)
  have hM : Mod K mg (hidT s₁.heap H) := ⟨hKb, ns_hid hns, ⟨mb, ns_hid hb, hbb⟩, let ⟨mc, h1, h2⟩ := hlim; ⟨mc, ns_hid h1, h2⟩⟩
  have e0 : Env0 P w K mg (hidT s₁.heap H) callerA [] s₁ H := ⟨rfl, hM, fun b o e => of_hidT e, Nat.le_of_eq (hidT_size _ _), trivial, (fun b hb => absurd (show b ∈ ([] : List Addr) from hb) (by simp)), hok, .of_eq hg⟩
  refine codeAny_mono ((F _ hKb (ns_hid hns)).run callerA rfl hr [] s₁ H ⟨[.ref a], []⟩ [.ref a] [.ref a] _ _ e0 (hbind s₁ (.ref a)) (.cons rfl .nil) (hsp H hS)) fun r s' h => ?_
  rcases r with e | fl
  · exact False.elim h
  rcases fl with _ | _ | _ | u
  · exact False.elim h
  · exact False.elim h
  · exact False.elim h
  obtain ⟨v, H', os, bare, un, hok', r', q⟩ := h
  have q' : v = .bl true := q
  subst q'
  obtain rfl : u = Value.bool true := r'
  refine ⟨rfl, OldK.of_keep fun b o e => ?_, os, bare⟩
  cases hb' : H b with
  | none => exact un.keep b o e hb' (fun z => absurd (show b ∈ ([] : List Addr) from z) (by simp)) (by simp)
  | some u =>
    obtain ⟨rfl, hk, rfl⟩ := Hsome hb'
    have e2 := (hok' _ _ (un.frzs _ oS _ hb')).1
    rw [ha] at e
    cases e
    exact e2
theorem walk_ofG {l : PySem.W.OpenLaw} {n k : Nat} {q : Program} {loose : List Str} {XP : (Str → Option Value) → Heap → Prop} {YP : World → Heap → Prop} {d : DefRec} {K : Params → PySem.W.Frag} {sp : PySem.W.Frag → Sp} {x : Str}
    (hn : l.most = some n) (hn2 : n ≤ sizeLine) (hdf : d.params.defaults = []) (hr : Room k callerA)
    (hY : ∀ (w : World) (h : Heap), YP w h → (K w.params).In h)
    (F : ∀ (w : World) (mg : Str → Option Value) (fa : Addr) (h : Heap), (K w.params).In h → h.Ns mainGlobals mg → mg d.name = some (.ref fa) →
      ∃ fd : FuncData, (∀ (s : Shared) (u : Value), BindsTo s fd ⟨[u], []⟩ [(x, u)]) ∧
        ∀ base : Heap, (K w.params).In base → base.Ns mainGlobals mg → FnG l.prog w (K w.params) mg base CX0 k fa fd [x] (sp (K w.params)))
    (hsp : ∀ (K : PySem.W.Frag) (H : Hp) (a : Addr) (ns : List Int), ns.length ≤ n → SqL K H a (ns.map V.int) → sp K [.ref a] H (fun v _ => v = .bl true) fun _ _ _ => False) :
    PySem.W.WalkO q loose XP YP l.row.toRowW d [] (fun f vs => PySem.call f vs) :=
  Att.attach_call hn hdf fun w s₀ s₁ mg mb fa o pm cd doc a vs ns G Y ho hd hcd hmg hobj hints hlen hg =>
    have KX := hY w _ Y
    let ⟨fd, hb, hF⟩ := F w mg fa _ KX G.T.g hmg
    law_callG KX G.T.g G.T.b G.T.builtins G.T.nolimit hg hobj hints (Nat.le_trans hlen hn2) hr hF hb fun H hS => hsp _ H a ns hlen hS
end MB

set_option maxHeartbeats 4000000
namespace MB
open PySem PySem.Spec PyProof.Rows L2
/-- data whose repr is asked: levels, size -/
structure Rp (k n : Nat) (d : PyData) : Prop where
  sh : Sh k d
  shw : d.showable = true
  short : d.leavesShort 13 = true
  bulk : d.bulk ≤ n
theorem Rp.mono {k n m : Nat} {d : PyData} (h : Rp k n d) (e : n ≤ m) : Rp k m d := ⟨h.sh, h.shw, h.short, Nat.le_trans h.bulk e⟩
theorem Rp.int {i : Int} {k : Nat} (h : i.natAbs < 1000000) : Rp k 0 (.int i) := by
  refine ⟨.int i, ?_, ?_, by simp [PyData.bulk]⟩
  · simp only [PyData.showable]
    refine decide_eq_true ?_
    by_cases h0 : i.natAbs = 0
    · rw [h0]; decide
    · exact Nat.lt_trans ((Nat.log2_lt h0).mpr (show i.natAbs < 2 ^ 20 by omega)) (by decide)
  · simp only [PyData.leavesShort]
    refine decide_eq_true ?_
    have e := int_text_length_le10 (a := i) (k := 6) (by decide) h
    have e2 : (PyData.shown (.int i)).length = (toString i).length := by
      simp only [PyData.shown]
      exact PySem.ofString_length _
    omega
theorem rp_all {k n : Nat} : ∀ {ds : List PyData}, (∀ d, d ∈ ds → Rp k n d) → PyData.showableAll ds = true ∧ PyData.leavesShortAll 13 ds = true ∧ PyData.bulkAll ds ≤ (n + 1) * ds.length
  | [], _ => ⟨by simp [PyData.showableAll], by simp [PyData.leavesShortAll], by simp [PyData.bulkAll]⟩
  | d :: ds, h => by
    have h1 := h d (List.mem_cons_self ..)
    obtain ⟨a, b, c⟩ := rp_all fun e he => h e (List.mem_cons_of_mem _ he)
    refine ⟨by simp only [PyData.showableAll, h1.shw, a, Bool.and_self], by simp only [PyData.leavesShortAll, h1.short, b, Bool.and_self], ?_⟩
    simp only [PyData.bulkAll, List.length_cons]
    have := h1.bulk
    rw [Nat.mul_add]
    omega
theorem Rp.tup {k n m : Nat} {ds : List PyData} (h : ∀ d, d ∈ ds → Rp k n d) (hm : (n + 1) * ds.length ≤ m) : Rp (k + 1) m (.tuple ds) := by
  obtain ⟨a, b, c⟩ := rp_all h
  exact ⟨Sh.tup fun d hd => (h d hd).sh, by simp only [PyData.showable]; exact a, by simp only [PyData.leavesShort]; exact b, by simp only [PyData.bulk]; omega⟩
theorem Rp.lst {k n m : Nat} {ds : List PyData} (h : ∀ d, d ∈ ds → Rp k n d) (hm : (n + 1) * ds.length ≤ m) : Rp (k + 1) m (.list ds) := by
  obtain ⟨a, b, c⟩ := rp_all h
  exact ⟨Sh.lst fun d hd => (h d hd).sh, by simp only [PyData.showable]; exact a, by simp only [PyData.leavesShort]; exact b, by simp only [PyData.bulk]; omega⟩
theorem Rp.ints {ns : List Int} {k m : Nat} (h : ∀ i, i ∈ ns → i.natAbs < 1000000) (hm : ns.length ≤ m) : Rp (k + 1) m (.tuple (ns.map PyData.int)) :=
  Rp.tup (n := 0) (fun d hd => by obtain ⟨i, hi, rfl⟩ := List.mem_map.mp hd; exact .int (h i hi)) (by rw [List.length_map]; omega)
theorem Rp.bool {b : Bool} {k : Nat} : Rp k 0 (.bool b) := ⟨⟨by simp [PyData.canLay0], by simp [PyData.depth]⟩, by simp [PyData.showable], by simp [PyData.leavesShort], by simp [PyData.bulk]⟩
/-- repr(x), by data -/
theorem repr_read {K : PySem.W.Frag} {H : Hp} {x : V} {d : PyData} {Q : VK} {k n : Nat} (hd : Dp K H x d) (hs : Rp k n d) (hk : k ≤ 60) (hn : n ≤ 1048576) (q : Q (.str d.shown) H) : rReprD K [x] H Q :=
  ⟨x, d, rfl, hd, hs.sh.1, hs.shw, Nat.le_trans hs.sh.2 hk, PyData.shown_fits_bulk (B := 13) (by decide) (by decide) hs.short (Nat.le_trans hs.bulk (by omega)), q⟩
theorem Rp.all {k n : Nat} {d : PyData} (hs : Rp k n d) (hk : k ≤ 60) (hn : n ≤ 1048576) : d.canLay0 = true ∧ d.showable = true ∧ d.depth ≤ 60 ∧ d.shown.length ≤ sizeLine :=
  ⟨hs.sh.1, hs.shw, Nat.le_trans hs.sh.2 hk, PyData.shown_fits_bulk (B := 13) (by decide) (by decide) hs.short (Nat.le_trans hs.bulk (by omega))⟩
end MB

set_option maxHeartbeats 4000000
namespace MB
open PySem PySem.Spec PyProof.Rows L2
/-- data whose repr is asked: levels, size -/
structure RpW (k n : Nat) (d : PyData) : Prop where
  sh : Sh k d
  shw : d.showable = true
  short : d.leavesShort  75 = true
  bulk : d.bulk ≤ n
theorem RpW.mono {k n m : Nat} {d : PyData} (h : RpW k n d) (e : n ≤ m) : RpW k m d := ⟨h.sh, h.shw, h.short, Nat.le_trans h.bulk e⟩
theorem RpW.int {i : Int} {k : Nat} (h : i.natAbs < 10 ^ 70) : RpW k 0 (.int i) := by
  refine ⟨.int i, ?_, ?_, by simp [PyData.bulk]⟩
  · simp only [PyData.showable]
    refine decide_eq_true ?_
    by_cases h0 : i.natAbs = 0
    · rw [h0]; decide
    · exact Nat.lt_trans ((Nat.log2_lt h0).mpr (show i.natAbs < 2 ^ 240 by exact Nat.lt_trans h (by decide +kernel))) (by decide)
  · simp only [PyData.leavesShort]
    refine decide_eq_true ?_
    have e := int_text_length_le10 (a := i) (k := 70) (by decide) h
    have e2 : (PyData.shown (.int i)).length = (toString i).length := by
      simp only [PyData.shown]
      exact PySem.ofString_length _
    omega
theorem rpW_all {k n : Nat} : ∀ {ds : List PyData}, (∀ d, d ∈ ds → RpW k n d) → PyData.showableAll ds = true ∧ PyData.leavesShortAll  75 ds = true ∧ PyData.bulkAll ds ≤ (n + 1) * ds.length
  | [], _ => ⟨by simp [PyData.showableAll], by simp [PyData.leavesShortAll], by simp [PyData.bulkAll]⟩
  | d :: ds, h => by
    have h1 := h d (List.mem_cons_self ..)
    obtain ⟨a, b, c⟩ := rpW_all fun e he => h e (List.mem_cons_of_mem _ he)
    refine ⟨by simp only [PyData.showableAll, h1.shw, a, Bool.and_self], by simp only [PyData.leavesShortAll, h1.short, b, Bool.and_self], ?_⟩
    simp only [PyData.bulkAll, List.length_cons]
    have := h1.bulk
    rw [Nat.mul_add]
    omega
theorem RpW.tup {k n m : Nat} {ds : List PyData} (h : ∀ d, d ∈ ds → RpW k n d) (hm : (n + 1) * ds.length ≤ m) : RpW (k + 1) m (.tuple ds) := by
  obtain ⟨a, b, c⟩ := rpW_all h
  exact ⟨Sh.tup fun d hd => (h d hd).sh, by simp only [PyData.showable]; exact a, by simp only [PyData.leavesShort]; exact b, by simp only [PyData.bulk]; omega⟩
theorem RpW.lst {k n m : Nat} {ds : List PyData} (h : ∀ d, d ∈ ds → RpW k n d) (hm : (n + 1) * ds.length ≤ m) : RpW (k + 1) m (.list ds) := by
  obtain ⟨a, b, c⟩ := rpW_all h
  exact ⟨Sh.lst fun d hd => (h d hd).sh, by simp only [PyData.showable]; exact a, by simp only [PyData.leavesShort]; exact b, by simp only [PyData.bulk]; omega⟩
theorem RpW.ints {ns : List Int} {k m : Nat} (h : ∀ i, i ∈ ns → i.natAbs < 10 ^ 70) (hm : ns.length ≤ m) : RpW (k + 1) m (.tuple (ns.map PyData.int)) :=
  RpW.tup (n := 0) (fun d hd => by obtain ⟨i, hi, rfl⟩ := List.mem_map.mp hd; exact .int (h i hi)) (by rw [List.length_map]; omega)
theorem RpW.bool {b : Bool} {k : Nat} : RpW k 0 (.bool b) := ⟨⟨by simp [PyData.canLay0], by simp [PyData.depth]⟩, by simp [PyData.showable], by simp [PyData.leavesShort], by simp [PyData.bulk]⟩
theorem fits75 {d : PyData} (hl : d.leavesShort 75 = true) (hw : d.bulk ≤ 100000) : d.shown.length ≤ sizeLine := by
  have h := PyData.shown_le_bulk 75 (by decide) d hl
  have h2 : (75 + 2) * d.bulk ≤ 77 * 100000 := Nat.mul_le_mul (by omega) (by omega)
  have e : sizeLine = 16777216 := by decide
  omega
/-- repr(x), by data -/
theorem reprW_read {K : PySem.W.Frag} {H : Hp} {x : V} {d : PyData} {Q : VK} {k n : Nat} (hd : Dp K H x d) (hs : RpW k n d) (hk : k ≤ 60) (hn : n ≤ 100000) (q : Q (.str d.shown) H) : rReprD K [x] H Q :=
  ⟨x, d, rfl, hd, hs.sh.1, hs.shw, Nat.le_trans hs.sh.2 hk, fits75 hs.short (Nat.le_trans hs.bulk hn), q⟩
theorem RpW.all {k n : Nat} {d : PyData} (hs : RpW k n d) (hk : k ≤ 60) (hn : n ≤ 100000) : d.canLay0 = true ∧ d.showable = true ∧ d.depth ≤ 60 ∧ d.shown.length ≤ sizeLine :=
  ⟨hs.sh.1, hs.shw, Nat.le_trans hs.sh.2 hk, fits75 hs.short (Nat.le_trans hs.bulk hn)⟩
end MB

set_option maxHeartbeats 4000000
namespace MB
open PySem PySem.Spec PyProof.Rows L2

/-! ### f(p = v), no value by position -/
def gK {α : Type} (us ws : List α) : List α := match us with
  | [] => ws
  | _ :: _ => []
section
variable {X : Cx} {CX : CXT} {k : Nat} {f : Addr} {fd : FuncData} {ps ks : List Str} {sp : Sp} {E : XK} {x : Str} {p pos : Pos} {kws : List Keyword} {tk : TA} {g : List Value → List Value → List Value} {gV : List V → List V → List V}
theorem pe_callK0 (F : FnOk X.prog X.w X.K X.mg X.base CX k f fd ps sp) (hr : Room k X.A) (hg : Gl X x) (hm : X.mg x = some (.ref f)) (hk : PySem.W.keepIn X.K (.ref f) = true) (hb : KBinds X.K fd ps ks g gV) (hx : Passes CX X E)
    (hkw : PK X kws tk) (hall : (backToKw pos (keywordEach kws X.env)).all (·.1.isSome) = true := by rfl) (hks : (backToKw pos (keywordEach kws X.env)).filterMap (·.1) = ks := by rfl)
    (hdb : (x == ("__debug__" : Str)) = false := by decide)
    (hpl : ((backTo pos (starEach [] X.env)).any (·.1) || (backToKw pos (keywordEach kws X.env)).any (·.1.isNone)) = false := by rfl) :
    PE X (.Call (.Name x p) [] kws pos) (tCallK sp gV E tNil tk) := by
  refine ⟨fun pins s σ H Q I h => ?_⟩
  refine wpAny_Call_Name_kw (ld_glob I hg hm ?_ hdb)
  refine PySem.W.callWith_KW0 (h₀ := X.base) I.ok.mod.kin hk hall ?_ hpl
  refine thn (hkw.run pos pins s σ H _ I h) fun ws s2 ⟨zs, H2, I2, rz, q2⟩ => ⟨I2.kIn, ?_⟩
  rw [hks]
  exact run_fnk (us := []) (vs := []) F hr hb hx I2 .nil rz q2
end
theorem kb1 {K : PySem.W.Frag} {x qual : Str} {st : Stmt} {f : Addr} {fd : FuncData} {q : Str} (F : L2.Fun K x qual st f fd)
    (h : ∀ (kV doc pm : Value) (an : Option Addr) (cdv ct u : Value), bindArgs (PySem.W.fnOf x qual (defArgs st) (defBody st) (defScope st) .none kV doc pm an cdv ct) ⟨[], [(q, u)]⟩ = pure [(q, u)]) : KBinds K fd [q] [q] gK gK := by
  obtain ⟨oc, od, kV, doc, pm, an, cdv, ct, osl, rfl, lk, hcd⟩ := F.ex
  refine ⟨fun s us ws _ hl => ?_, fun {vs us zs ws} r1 r2 => ?_⟩
  · cases us with
    | cons u us => exact nomatch hl
    | nil =>
      match ws, hl with
      | [u], _ => exact .of_eq (h kV doc pm an cdv ct u)
  · cases r1 with
    | nil => exact r2
    | cons _ _ => exact .nil

/-! ### a comprehension with a test -/
theorem lc_sel {K : PySem.W.Frag} {J : It} {n : Nat} {G : Hp → Prop} {Y : Nat → Hp → V → Hp → Prop} (w : Walk J n G Y) {g : TG} {tt : TT} {te : TE} {vs : List Nat} {σ : L2.St} {H1 : Hp} {D : Addr} {Qd : Hp → Prop}
    (f : Nat → Bool) (d : Nat → PyData) (ht : ∀ i, i < n → Tf (d i)) (hn : n ≤ 1000) (hD : H1 D = none) (hG : ∀ H, Same H1 H → G H)
    (hs : ∀ i x H H', i < n → Same H1 H → Y i H x H' → ∀ R : V → Hp → Prop, (∀ y H4, Same H H4 → Dp K H4 y (d i) → R y H4) →
      g x (wipe σ vs) H' fun σ2 H2 => wipe σ2 vs = wipe σ vs ∧ tt σ2 H2 fun b H3 => b = f i ∧ Same H H3 ∧ (b = true → te σ2 H3 R))
    (hd : ∀ H acc, Same H1 H → H D = some (.lst acc) → DpAll K H acc (((List.range n).filter f).map d) → Qd H)
    (mg : ∀ x σ' H' (Q Q' : L2.St → Hp → Prop), (∀ a b, Q a b → Q' a b) → g x σ' H' Q → g x σ' H' Q') (mt : ∀ σ' H' (Q Q' : Bool → Hp → Prop), (∀ a b, Q a b → Q' a b) → tt σ' H' Q → tt σ' H' Q') :
    ∃ W : Nat → Nat → Hp → Prop, (∃ m, W 0 m (upd H1 D (.lst []))) ∧ ∀ i m H, W i m H →
      (J.stop i H ∧ Qd H) ∨ (J.go i H ∧ ∃ Nx : Hp → Prop, (∀ H', Nx H' → ∃ m', m' < m ∧ W (i + 1) m' H') ∧ ∀ x H', J.yld i H x H' → g x (wipe σ vs) H' fun σ2 H2 => wipe σ2 vs = wipe σ vs ∧ tt σ2 H2 fun b H3 =>
        if b = true then te σ2 H3 fun y H4 => ∃ acc, H4 D = some (.lst acc) ∧ acc.length < sizeLine ∧ Nx (upd H4 D (.lst (acc ++ [y]))) else Nx H3) := by
  refine lc_it w (fun i H => Same H1 H ∧ ∃ acc, H D = some (.lst acc) ∧ DpAll K H acc (((List.range i).filter f).map d)) ⟨same_upd hD, [], upd_same, .nil⟩ (fun i H _ h => hG H h.1) ?_ ?_
  · rintro i x H H' hi ⟨s1, acc, ha, hA⟩ hy
    have hlen := DpAll.len hA
    have hle : acc.length ≤ i := by
      rw [hlen, List.length_map]
      have := List.length_filter_le f (List.range i)
      rw [List.length_range] at this
      exact this
    refine mg _ _ _ _ _ ?_ (hs i x H H' hi s1 hy (fun y H4 => ∃ acc, H4 D = some (.lst acc) ∧ acc.length < sizeLine ∧ (f i = true → Same H1 (upd H4 D (.lst (acc ++ [y]))) ∧ ∃ acc', (upd H4 D (.lst (acc ++ [y]))) D = some (.lst acc') ∧ DpAll K (upd H4 D (.lst (acc ++ [y]))) acc' (((List.range (i + 1)).filter f).map d))) ?_)
    · rintro σ2 H2 ⟨h1, h2⟩
      refine ⟨h1, mt _ _ _ _ ?_ h2⟩
      rintro b H3 ⟨hb, s3, h3⟩
      cases b with
      | true =>
        refine iteT ?_
        have h4 := h3 rfl
        have hb' := hb.symm
        simp only [hb', true_implies] at h4
        exact h4
      | false =>
        refine iteF ⟨s1.trans s3, acc, s3 _ _ ha, ?_⟩
        rw [List.range_succ, List.filter_append, List.map_append]
        have e : List.filter f [i] = [] := by rw [List.filter_cons, if_neg (by rw [← hb]; decide)]; rfl
        rw [e, List.map_nil, List.append_nil]
        exact DpAll.same s3 hA
    · intro y H4 s4 hy4
      refine ⟨acc, s4 _ _ ha, sz61 (by omega), fun hf => ⟨Same.mut (s1.trans s4) hD, acc ++ [y], upd_same, ?_⟩⟩
      have kp : Keep K H4 (upd H4 D (.lst (acc ++ [y]))) := But.keep But.upd (s4 _ _ ha)
      have e : List.filter f [i] = [i] := by rw [List.filter_cons, if_pos hf]; rfl
      rw [List.range_succ, List.filter_append, List.map_append, e]
      refine DpAll.keep kp (fun d' h => ?_) (DpAll.append (DpAll.same s4 hA) (.cons hy4 .nil))
      rcases List.mem_append.mp h with h | h
      · obtain ⟨j, hj, rfl⟩ := List.mem_map.mp h
        have := List.mem_range.mp (List.mem_filter.mp hj).1
        exact ht j (by omega)
      · have e : d' = d i := by simpa using h
        rw [e]; exact ht i hi
  · rintro H ⟨s1, acc, ha, hA⟩
    exact hd H acc s1 ha hA
end MB

set_option maxHeartbeats 4000000
namespace MB
open PySem PySem.Spec PyProof.Rows L2
/-! ### x *= e -/
theorem ip_mulW {X : Cx} : PIp X .Mult (fun x y H Q => ∃ i j, x = .int i ∧ y = .int j ∧ CMulW i j ∧ Q (.int (i * j)) H) := by
  intro pins s σ H x y v u Q I r1 r2 h
  obtain ⟨i, j, e1, e2, hc, q⟩ := h
  subst e1; subst e2
  obtain ⟨t, rfl⟩ := r1
  obtain ⟨t', rfl⟩ := r2
  exact imul_int ⟨.int _, H, I.tok _, ⟨_, rfl⟩, q⟩ hc.ok
/-! ### f(q = v, p = w): by keywords in any order -/
def gP {α : Type} (idx : List Nat) (us ws : List α) : List α := match us with
  | [] => idx.filterMap fun i => ws[i]?
  | _ :: _ => []
theorem gP_take {α : Type} {n : Nat} {ws : List α} : ∀ {idx : List Nat}, (∀ i, i ∈ idx → i < n) → (idx.filterMap fun i => (ws.take n)[i]?) = idx.filterMap fun i => ws[i]?
  | [], _ => rfl
  | i :: idx, h => by
    have h1 := h i (List.mem_cons_self ..)
    have h2 := gP_take (α := α) (n := n) (ws := ws) (idx := idx) fun j hj => h j (List.mem_cons_of_mem _ hj)
    rw [List.filterMap_cons, List.filterMap_cons, h2, List.getElem?_take, if_pos h1]
theorem gP_len {α : Type} {ws : List α} : ∀ {idx : List Nat}, (idx.filterMap fun i => ws[i]?).length = idx.length → ∀ i, i ∈ idx → i < ws.length
  | [], _, i, h => nomatch h
  | j :: idx, hl, i, h => by
    cases e : ws[j]? with
    | none =>
      simp only [List.filterMap_cons, e] at hl
      have := List.length_filterMap_le (fun i => ws[i]?) idx
      simp only [List.length_cons] at hl
      omega
    | some x =>
      simp only [List.filterMap_cons, e, List.length_cons, Nat.add_right_cancel_iff] at hl
      rcases List.mem_cons.mp h with h | h
      · subst h
        exact (List.getElem?_eq_some_iff.mp e).1
      · exact gP_len hl i h
theorem gP_rel {zs : List V} {ws : List Value} (r : Vals zs ws) : ∀ idx : List Nat, Vals (idx.filterMap fun i => zs[i]?) (idx.filterMap fun i => ws[i]?)
  | [] => .nil
  | i :: idx => by
    have ih := gP_rel r idx
    cases e : zs[i]? with
    | none =>
      have e2 : ws[i]? = none := List.getElem?_eq_none (by rw [← r.length]; exact List.getElem?_eq_none_iff.mp e)
      simp only [List.filterMap_cons, e, e2]; exact ih
    | some x =>
      obtain ⟨u, e2, ru⟩ := r.get e
      simp only [List.filterMap_cons, e, e2]; exact .cons ru ih
theorem zip_take {α β : Type} : ∀ (ks : List α) (ws : List β), ks.zip (ws.take ks.length) = ks.zip ws
  | [], _ => rfl
  | _ :: _, [] => rfl
  | k :: ks, w :: ws => by simp [zip_take ks ws]
theorem kbP {K : PySem.W.Frag} {x qual : Str} {st : Stmt} {f : Addr} {fd : FuncData} {ps ks : List Str} {idx : List Nat} (F : L2.Fun K x qual st f fd) (hi : idx.length = ps.length) (hk : ks.length = ps.length) (hp : 0 < ps.length)
    (hall : (∀ i, i ∈ idx → i < ps.length) ∧ ps.length - 1 ∈ idx)
    (h : ∀ (kV doc pm : Value) (an : Option Addr) (cdv ct : Value) (ws : List Value), ws.length = ps.length → bindArgs (PySem.W.fnOf x qual (defArgs st) (defBody st) (defScope st) .none kV doc pm an cdv ct) ⟨[], ks.zip ws⟩ = pure (ps.zip (gP idx [] ws))) : KBinds K fd ps ks (gP idx) (gP idx) := by
  obtain ⟨oc, od, kV, doc, pm, an, cdv, ct, osl, rfl, lk, hcd⟩ := F.ex
  refine ⟨fun s us ws _ hl => ?_, fun {vs us zs ws} r1 r2 => ?_⟩
  · cases us with
    | cons u us =>
      have : 0 = ps.length := hl
      omega
    | nil =>
      have hl' : (idx.filterMap fun i => ws[i]?).length = idx.length := by rw [hi]; exact hl
      have h2 := gP_len hl' _ hall.2
      have h3 := h kV doc pm an cdv ct (ws.take ps.length) (by rw [List.length_take]; omega)
      have e1 : gP idx [] (ws.take ps.length) = gP idx [] ws := gP_take hall.1
      have e2 : ks.zip (ws.take ps.length) = ks.zip ws := by
        rw [← hk]
        exact zip_take ks ws
      rw [e1, e2] at h3
      exact .of_eq h3
  · cases r1 with
    | nil => exact gP_rel r2 idx
    | cons _ _ => exact .nil
section
variable {X : Cx} {CX : CXT} {k : Nat} {f : Addr} {fd : FuncData} {ps ks : List Str} {sp : Sp} {E : XK} {x : Str} {p pos : Pos} {kws : List Keyword} {tk : TA} {g : List Value → List Value → List Value} {gV : List V → List V → List V}
end
end MB

set_option maxHeartbeats 4000000
namespace MB
open PySem PySem.Spec PyProof.Rows L2
theorem blT {c : Prop} [Decidable c] (h : c) : V.bl (decide c) = V.bl true := by rw [decide_eq_true h]
theorem blF {c : Prop} [Decidable c] (h : ¬ c) : V.bl (decide c) = V.bl false := by rw [decide_eq_false h]
theorem nblF {c : Prop} [Decidable c] (h : c) : V.bl (!decide c) = V.bl false := by rw [decide_eq_true h]; rfl
theorem nblT {c : Prop} [Decidable c] (h : ¬ c) : V.bl (!decide c) = V.bl true := by rw [decide_eq_false h]; rfl
theorem int_ne {i j : Int} (h : i ≠ j) : ¬ V.int i = V.int j := fun e => h (by injection e)
theorem dp_bls_inv {K : PySem.W.Frag} {H : Hp} : ∀ {ns : List Bool} {vs : List V}, DpAll K H vs (ns.map PyData.bool) → vs = ns.map V.bl
  | [], _, .nil => rfl
  | n :: ns, _, .cons a b => by
    cases a
    rw [dp_bls_inv b]
    rfl
/-- a comprehension whose items are truth values -/
theorem lc_bools {K : PySem.W.Frag} {J : It} {n : Nat} {G : Hp → Prop} {Y : Nat → Hp → V → Hp → Prop} (w : Walk J n G Y) {g : TG} {tt : TT} {te : TE} {vs : List Nat} {σ : L2.St} {H1 : Hp} {D : Addr} {Qd : Hp → Prop}
    (bs : List Bool) (hl : bs.length = n) (hn : n ≤ 1000) (hD : H1 D = none) (hG : ∀ H, Same H1 H → G H)
    (hs : ∀ i x H H', i < n → Same H1 H → Y i H x H' → ∀ b, bs[i]? = some b → ∀ R : V → Hp → Prop, (∀ H4, Same H H4 → R (.bl b) H4) →
      g x (wipe σ vs) H' fun σ2 H2 => wipe σ2 vs = wipe σ vs ∧ tt σ2 H2 fun b H3 => b = true ∧ te σ2 H3 R)
    (hd : ∀ H, Same H1 H → H D = some (.lst (bs.map V.bl)) → Qd H)
    (mg : ∀ x σ' H' (Q Q' : L2.St → Hp → Prop), (∀ a b, Q a b → Q' a b) → g x σ' H' Q → g x σ' H' Q') (mt : ∀ σ' H' (Q Q' : Bool → Hp → Prop), (∀ a b, Q a b → Q' a b) → tt σ' H' Q → tt σ' H' Q') :
    ∃ W : Nat → Nat → Hp → Prop, (∃ m, W 0 m (upd H1 D (.lst []))) ∧ ∀ i m H, W i m H →
      (J.stop i H ∧ Qd H) ∨ (J.go i H ∧ ∃ Nx : Hp → Prop, (∀ H', Nx H' → ∃ m', m' < m ∧ W (i + 1) m' H') ∧ ∀ x H', J.yld i H x H' → g x (wipe σ vs) H' fun σ2 H2 => wipe σ2 vs = wipe σ vs ∧ tt σ2 H2 fun b H3 =>
        if b = true then te σ2 H3 fun y H4 => ∃ acc, H4 D = some (.lst acc) ∧ acc.length < sizeLine ∧ Nx (upd H4 D (.lst (acc ++ [y]))) else Nx H3) := by
  refine lc_all (K := K) w (bs.map PyData.bool) (by rw [List.length_map, hl]) (fun d h => ?_) hn hD hG ?_ ?_ mg mt
  · obtain ⟨b, _, rfl⟩ := List.mem_map.mp h
    exact .bl b
  · intro i x H H' hi s y d hd' R hR
    rw [List.getElem?_map] at hd'
    cases e : bs[i]? with
    | none => rw [e] at hd'; cases hd'
    | some b =>
      rw [e] at hd'
      cases hd'
      exact hs i x H H' hi s y b e R fun H4 s4 => hR _ _ s4 (.bl b)
  · intro H acc s ha hA
    rw [dp_bls_inv hA] at ha
    exact hd H s ha
/-- a comprehension whose items are numbers -/
theorem lc_ints {K : PySem.W.Frag} {J : It} {n : Nat} {G : Hp → Prop} {Y : Nat → Hp → V → Hp → Prop} (w : Walk J n G Y) {g : TG} {tt : TT} {te : TE} {vs : List Nat} {σ : L2.St} {H1 : Hp} {D : Addr} {Qd : Hp → Prop}
    (bs : List Int) (hl : bs.length = n) (hn : n ≤ 1000) (hD : H1 D = none) (hG : ∀ H, Same H1 H → G H)
    (hs : ∀ i x H H', i < n → Same H1 H → Y i H x H' → ∀ b, bs[i]? = some b → ∀ R : V → Hp → Prop, (∀ H4, Same H H4 → R (.int b) H4) →
      g x (wipe σ vs) H' fun σ2 H2 => wipe σ2 vs = wipe σ vs ∧ tt σ2 H2 fun b H3 => b = true ∧ te σ2 H3 R)
    (hd : ∀ H, Same H1 H → H D = some (.lst (bs.map V.int)) → Qd H)
    (mg : ∀ x σ' H' (Q Q' : L2.St → Hp → Prop), (∀ a b, Q a b → Q' a b) → g x σ' H' Q → g x σ' H' Q') (mt : ∀ σ' H' (Q Q' : Bool → Hp → Prop), (∀ a b, Q a b → Q' a b) → tt σ' H' Q → tt σ' H' Q') :
    ∃ W : Nat → Nat → Hp → Prop, (∃ m, W 0 m (upd H1 D (.lst []))) ∧ ∀ i m H, W i m H →
      (J.stop i H ∧ Qd H) ∨ (J.go i H ∧ ∃ Nx : Hp → Prop, (∀ H', Nx H' → ∃ m', m' < m ∧ W (i + 1) m' H') ∧ ∀ x H', J.yld i H x H' → g x (wipe σ vs) H' fun σ2 H2 => wipe σ2 vs = wipe σ vs ∧ tt σ2 H2 fun b H3 =>
        if b = true then te σ2 H3 fun y H4 => ∃ acc, H4 D = some (.lst acc) ∧ acc.length < sizeLine ∧ Nx (upd H4 D (.lst (acc ++ [y]))) else Nx H3) := by
  refine lc_all (K := K) w (bs.map PyData.int) (by rw [List.length_map, hl]) (tf_ints _) hn hD hG ?_ ?_ mg mt
  · intro i x H H' hi s y d hd' R hR
    rw [List.getElem?_map] at hd'
    cases e : bs[i]? with
    | none => rw [e] at hd'; cases hd'
    | some b =>
      rw [e] at hd'
      cases hd'
      exact hs i x H H' hi s y b e R fun H4 s4 => hR _ _ s4 (.int b)
  · intro H acc s ha hA
    rw [dp_ints_inv hA] at ha
    exact hd H s ha
theorem k_pgTN {X : Cx} {K : PySem.W.Frag} {x y z : Str} {px py pz p1 : Pos} {k k1 : Nat} {pos : Pos} {t1 t2 : TG} (hK : X.K = K) (hc : X.calm = true) (h1 : PG X (.Tuple [.Name x px, .Name y py] k1 p1) t1) (h2 : PG X (.Name z pz) t2) : PG X (.Tuple [.Tuple [.Name x px, .Name y py] k1 p1, .Name z pz] k pos) (gTup K 2 (gCons t1 (gCons t2 gNil))) := by
  subst hK
  exact pg_tup hc (pgs_cons h1 (pgs_cons h2 pgs_nil))
theorem mono_pair2 {K : PySem.W.Frag} {n n' i j l : Nat} (x : V) (σ' : L2.St) (H' : Hp) (Q Q' : L2.St → Hp → Prop) (h : ∀ a b, Q a b → Q' a b) (e : gTup K n (gCons (gTup K n' (gCons (gName i) (gCons (gName j) gNil))) (gCons (gName l) gNil)) x σ' H' Q) : gTup K n (gCons (gTup K n' (gCons (gName i) (gCons (gName j) gNil))) (gCons (gName l) gNil)) x σ' H' Q' := by
  obtain ⟨a, xs, e1, e2, e3, v, r, e4, b, ys, f1, f2, f3, v1, r1, f4, v2, r2, f5, f6, v', r', e5, e6, q⟩ := e
  exact ⟨a, xs, e1, e2, e3, v, r, e4, b, ys, f1, f2, f3, v1, r1, f4, v2, r2, f5, f6, v', r', e5, e6, h _ _ q⟩
theorem ci_sum : ∀ p : List Nat, (ci p).sum = ((p.sum : Nat) : Int)
  | [] => rfl
  | x :: p => by
    have := ci_sum p
    simp only [ci, List.map_cons, List.sum_cons, Int.natCast_add] at this ⊢
    rw [this]
theorem cutV_to {p : List Nat} {m : Nat} (h : m ≤ p.length) : cutV (vi p) none (some (m : Int)) = vi (p.take m) := by
  rw [cut_to (by rw [vi_len]; exact h)]; simp [vi, List.map_take]
theorem cutV_from {p : List Nat} {m : Nat} (h : m ≤ p.length) : cutV (vi p) (some (m : Int)) none = vi (p.drop m) := by
  rw [cut_from (by rw [vi_len]; exact h)]; simp [vi, List.map_drop]
theorem cut_drop {p : List Nat} {m : Nat} (h : m ≤ p.length) : cutV (vi p) (some (m : Int)) none = (ci (p.drop m)).map V.int := by
  rw [cutV_from h, vi_ci]
theorem isi_int {K : PySem.W.Frag} {H : Hp} {i : Int} {Q : VK} (q : Q (.bl true) H) : rIsi K [.int i, .ty "int"] H Q :=
  ⟨.int i, .ty "int", .type "int", .type "int", true, rfl, .ty _, .base (.int i), kit_ty (by decide +kernel), q⟩
theorem isi_bool {K : PySem.W.Frag} {H : Hp} {i : Int} {Q : VK} (q : Q (.bl false) H) : rIsi K [.int i, .ty "bool"] H Q :=
  ⟨.int i, .ty "bool", .type "int", .type "bool", false, rfl, .ty _, .base (.int i), kit_ty (by decide +kernel), q⟩
theorem nth3 {n : Nat} (x : List V) (h : x.length = n) (i : Nat) (hi : i < (if (if (x.length : Int) < 3 then (x.length : Int) else 3) > 1 then (if (x.length : Int) < 3 then (x.length : Int) else 3) else 1 : Int).toNat) : i ≤ 62 := by
  have : (if (if (x.length : Int) < 3 then (x.length : Int) else 3) > 1 then (if (x.length : Int) < 3 then (x.length : Int) else 3) else 1) ≤ 3 := by split <;> split <;> omega
  omega
end MB

set_option maxHeartbeats 4000000
namespace MB
/-! ### binomial coefficients -/
def bin : Nat → Nat → Nat
  | _, 0 => 1
  | 0, _ + 1 => 0
  | n + 1, k + 1 => bin n k + bin n (k + 1)
theorem bin_zero (n : Nat) : bin n 0 = 1 := by cases n <;> rfl
theorem bin_succ (n k : Nat) : bin (n + 1) (k + 1) = bin n k + bin n (k + 1) := rfl
theorem bin_lt : ∀ {n k : Nat}, n < k → bin n k = 0
  | 0, k + 1, _ => rfl
  | n + 1, k + 1, h => by rw [bin_succ, bin_lt (n := n) (by omega), bin_lt (n := n) (by omega)]
theorem bin_self : ∀ n : Nat, bin n n = 1
  | 0 => rfl
  | n + 1 => by rw [bin_succ, bin_self n, bin_lt (by omega)]
theorem bin_one : ∀ n : Nat, bin n 1 = n
  | 0 => rfl
  | n + 1 => by rw [bin_succ, bin_zero, bin_one n]; omega
theorem bin_pos : ∀ {n k : Nat}, k ≤ n → 0 < bin n k
  | n, 0, _ => by rw [bin_zero]; decide
  | n + 1, k + 1, h => by rw [bin_succ]; have := bin_pos (n := n) (k := k) (by omega); omega
theorem bin_mul : ∀ n k : Nat, bin (n + 1) (k + 1) * (k + 1) = (n + 1) * bin n k
  | 0, 0 => by decide
  | 0, k + 1 => by simp [bin]
  | n + 1, 0 => by rw [bin_one, bin_zero]
  | n + 1, k + 1 => by
    have h1 := bin_mul n k
    have h2 := bin_mul n (k + 1)
    rw [bin_succ (n + 1) (k + 1), Nat.add_mul, h2]
    have e1 : bin (n + 1) (k + 1) * (k + 1 + 1) = bin (n + 1) (k + 1) * (k + 1) + bin (n + 1) (k + 1) := by rw [Nat.mul_add, Nat.mul_one]
    rw [e1, h1, bin_succ n k]
    grind
/-- the next one in a row -/
theorem bin_step {n j : Nat} (h : j ≤ n) : bin n (j + 1) * (j + 1) = bin n j * (n - j) := by
  have h1 := bin_mul n j
  rw [bin_succ, Nat.add_mul] at h1
  have e : (n + 1) * bin n j = bin n j * (n - j) + bin n j * (j + 1) := by rw [← Nat.mul_add, Nat.mul_comm]; congr 1; omega
  omega
theorem bin_div {n j : Nat} (h : j ≤ n) : bin n j * (n - j) / (j + 1) = bin n (j + 1) := by
  rw [← bin_step h, Nat.mul_div_cancel _ (by omega)]
theorem bin_sym : ∀ a b : Nat, bin (a + b) a = bin (a + b) b
  | 0, b => by rw [Nat.zero_add, bin_zero, bin_self]
  | a + 1, 0 => by rw [Nat.add_zero, bin_zero, bin_self]
  | a + 1, b + 1 => by
    have e : a + 1 + (b + 1) = (a + b + 1) + 1 := by omega
    rw [e, bin_succ (a + b + 1) a, bin_succ (a + b + 1) b]
    have h1 := bin_sym a (b + 1)
    have h2 := bin_sym (a + 1) b
    have e1 : a + (b + 1) = a + b + 1 := by omega
    have e2 : a + 1 + b = a + b + 1 := by omega
    rw [e1] at h1; rw [e2] at h2
    omega
theorem bin_sub {n k : Nat} (h : k ≤ n) : bin n (n - k) = bin n k := by
  have := bin_sym k (n - k)
  rw [show k + (n - k) = n by omega] at this
  exact this.symm
theorem bin_min {n k : Nat} (h : k ≤ n) : bin n (min k (n - k)) = bin n k := by
  by_cases c : k ≤ n - k
  · rw [Nat.min_eq_left c]
  · rw [Nat.min_eq_right (by omega), bin_sub h]
theorem bin_mono1 : ∀ n k : Nat, bin n k ≤ bin (n + 1) k
  | n, 0 => by rw [bin_zero, bin_zero]; exact Nat.le_refl _
  | n, k + 1 => by rw [bin_succ]; omega
theorem bin_mono {n m : Nat} (k : Nat) (h : n ≤ m) : bin n k ≤ bin m k := by
  induction h with
  | refl => exact Nat.le_refl _
  | step _ ih => exact Nat.le_trans ih (bin_mono1 _ _)
theorem bin_strict1 {n k : Nat} (h : k ≤ n + 1) : bin n (k + 1) < bin (n + 1) (k + 1) ∨ n < k := by
  by_cases c : n < k
  · exact .inr c
  · refine .inl ?_
    rw [bin_succ]
    have := bin_pos (n := n) (k := k) (by omega)
    omega
theorem bin_strict {n m k : Nat} (hk : 1 ≤ k) (hn : k ≤ n + 1) (h : n < m) : bin n k < bin m k := by
  have h1 : bin n k < bin (n + 1) k := by
    obtain ⟨j, rfl⟩ : ∃ j, k = j + 1 := ⟨k - 1, by omega⟩
    rw [bin_succ]
    have := bin_pos (n := n) (k := j) (by omega)
    omega
  exact Nat.lt_of_lt_of_le h1 (bin_mono k h)
theorem bin_pow : ∀ n k : Nat, bin n k ≤ (n + 1) ^ k
  | n, 0 => by rw [bin_zero]; simp
  | 0, k + 1 => by rw [bin_lt (by omega)]; exact Nat.zero_le _
  | n + 1, k + 1 => by
    have h := bin_mul n k
    have h1 : bin (n + 1) (k + 1) ≤ bin (n + 1) (k + 1) * (k + 1) := Nat.le_mul_of_pos_right _ (by omega)
    have h2 := bin_pow n k
    have h3 : (n + 1) ^ k ≤ (n + 1 + 1) ^ k := Nat.pow_le_pow_left (by omega) _
    have h4 : (n + 1) * bin n k ≤ (n + 1 + 1) * (n + 1 + 1) ^ k := Nat.mul_le_mul (by omega) (Nat.le_trans h2 h3)
    have h5 : (n + 1 + 1) ^ (k + 1) = (n + 1 + 1) * (n + 1 + 1) ^ k := by rw [Nat.pow_succ, Nat.mul_comm]
    omega
theorem bin_bits {n k : Nat} (hn : n < 2 ^ 64) (hk : k ≤ 64) : bin n k < 2 ^ 4097 := by
  have h1 := bin_pow n k
  have h2 : (n + 1) ^ k ≤ (2 ^ 64) ^ k := Nat.pow_le_pow_left (by omega) _
  have h3 : (2 ^ 64) ^ k ≤ (2 ^ 64 : Nat) ^ 64 := Nat.pow_le_pow_right (by decide) hk
  have h4 : ((2 ^ 64 : Nat) ^ 64) < 2 ^ 4097 := by decide +kernel
  omega
theorem bin_big {k c : Nat} (hk : 1 ≤ k) : c + 1 ≤ bin (k + c) k := by
  induction c with
  | zero => show 1 ≤ bin k k; rw [bin_self]; exact Nat.le_refl _
  | succ c ih =>
    have := bin_strict (n := k + c) (m := k + (c + 1)) (k := k) hk (by omega) (by omega)
    omega
/-- c is the least with n < C(k + c, k) -/
def Lw (k n c : Nat) : Prop := n < bin (k + c) k ∧ ∀ d, d < c → bin (k + d) k ≤ n
theorem Lw.uniq {k n c d : Nat} (a : Lw k n c) (b : Lw k n d) : c = d := by
  rcases Nat.lt_trichotomy c d with h | h | h
  · have := b.2 c h; have := a.1; omega
  · exact h
  · have := a.2 d h; have := b.1; omega
theorem Lw.mk' {k n c : Nat} (h : n < bin (k + c) k) (h' : c = 0 ∨ bin (k + (c - 1)) k ≤ n) : Lw k n c := by
  refine ⟨h, fun d hd => ?_⟩
  rcases h' with e | e
  · omega
  · exact Nat.le_trans (bin_mono k (by omega)) e
def lwGo (k n : Nat) : Nat → Nat → Nat
  | 0, c => c
  | f + 1, c => if n < bin (k + c) k then c else lwGo k n f (c + 1)
def lw (k n : Nat) : Nat := lwGo k n (n + 1) 0
theorem lwGo_ok {k n : Nat} (hk : 1 ≤ k) : ∀ f c, (∀ d, d < c → bin (k + d) k ≤ n) → n < f + c → Lw k n (lwGo k n f c)
  | 0, c, h, hf => ⟨by have := bin_big (k := k) (c := c) hk; unfold lwGo; omega, h⟩
  | f + 1, c, h, hf => by
    unfold lwGo
    by_cases hc : n < bin (k + c) k
    · rw [if_pos hc]; exact ⟨hc, h⟩
    · rw [if_neg hc]
      refine lwGo_ok hk f (c + 1) (fun d hd => ?_) (by omega)
      by_cases e : d < c
      · exact h d e
      · have : d = c := by omega
        subst this; omega
theorem lw_ok {k : Nat} (n : Nat) (hk : 1 ≤ k) : Lw k n (lw k n) := lwGo_ok hk _ _ (fun _ h => absurd h (by omega)) (by omega)
theorem lw_le {k n : Nat} (hk : 1 ≤ k) : lw k n ≤ n := by
  have h := (lw_ok n hk).2
  by_cases c : lw k n ≤ n
  · exact c
  · have h1 := h n (by omega)
    have := bin_big (k := k) (c := n) hk
    omega
end MB

set_option maxHeartbeats 4000000
namespace MB
/-- the terms above 0 of the representation of n with k terms -/
def rl : Nat → Nat → List Nat
  | 0, _ => []
  | k + 1, n => if n = 0 then [] else bin (k + lw (k + 1) n) (k + 1) :: rl k (n - bin (k + lw (k + 1) n) (k + 1))
theorem rl_zero (k : Nat) : rl k 0 = [] := by cases k <;> simp [rl]
theorem rl_succ {k n : Nat} (h : n ≠ 0) : rl (k + 1) n = bin (k + lw (k + 1) n) (k + 1) :: rl k (n - bin (k + lw (k + 1) n) (k + 1)) := by simp [rl, h]
theorem lw_pos {k n : Nat} (hk : 1 ≤ k) (hn : n ≠ 0) : 1 ≤ lw k n := by
  have h := (lw_ok n hk).1
  by_cases c : lw k n = 0
  · rw [c] at h
    have : bin (k + 0) k = 1 := bin_self k
    omega
  · omega
theorem top_le {k n : Nat} (hn : n ≠ 0) : bin (k + lw (k + 1) n) (k + 1) ≤ n := by
  have h1 := lw_pos (k := k + 1) (by omega) hn
  have h2 := (lw_ok (k := k + 1) n (by omega)).2 (lw (k + 1) n - 1) (by omega)
  rwa [show k + 1 + (lw (k + 1) n - 1) = k + lw (k + 1) n by omega] at h2
theorem top_pos {k n : Nat} (hn : n ≠ 0) : 0 < bin (k + lw (k + 1) n) (k + 1) :=
  bin_pos (by have := lw_pos (k := k + 1) (by omega) hn; omega)
theorem rest_lt {k n : Nat} (hn : n ≠ 0) : n - bin (k + lw (k + 1) n) (k + 1) < bin (k + lw (k + 1) n) k := by
  have h1 := (lw_ok (k := k + 1) n (by omega)).1
  have h2 := top_le (k := k) hn
  rw [show k + 1 + lw (k + 1) n = (k + lw (k + 1) n) + 1 by omega, bin_succ] at h1
  omega
theorem rest_zero {n : Nat} (hn : n ≠ 0) : n - bin (0 + lw (0 + 1) n) (0 + 1) = 0 := by
  have := rest_lt (k := 0) hn
  rw [bin_zero] at this
  omega
theorem rl_sum : ∀ k n : Nat, (k = 0 → n = 0) → (rl k n).sum = n
  | 0, n, h => by rw [h rfl]; rfl
  | k + 1, n, _ => by
    by_cases hn : n = 0
    · subst hn; rw [rl_zero]; rfl
    · rw [rl_succ hn, List.sum_cons, rl_sum k _ (fun e => by subst e; exact rest_zero hn)]
      have := top_le (k := k) hn
      omega
theorem rl_len : ∀ k n : Nat, (rl k n).length ≤ k
  | 0, n => by simp [rl]
  | k + 1, n => by
    by_cases hn : n = 0
    · subst hn; rw [rl_zero]; simp
    · rw [rl_succ hn, List.length_cons]
      have := rl_len k (n - bin (k + lw (k + 1) n) (k + 1))
      omega
theorem rl_pos : ∀ k n : Nat, ∀ x, x ∈ rl k n → 0 < x ∧ x ≤ n
  | 0, n, x, h => by simp [rl] at h
  | k + 1, n, x, h => by
    by_cases hn : n = 0
    · subst hn; rw [rl_zero] at h; cases h
    · rw [rl_succ hn] at h
      rcases List.mem_cons.mp h with h | h
      · rw [h]; exact ⟨top_pos hn, top_le hn⟩
      · have := rl_pos k _ x h
        omega
/-- the last flush's run holds what was merged and its own -/
theorem rl_step : ∀ k n : Nat, ∃ m, m ≤ (rl (k + 1) n).length ∧ rl (k + 1) (n + 1) = (rl (k + 1) n).take m ++ [1 + ((rl (k + 1) n).drop m).sum]
  | k, n => by
    by_cases hn : n = 0
    · subst hn
      refine ⟨0, Nat.zero_le _, ?_⟩
      rw [rl_zero, rl_succ (by omega)]
      have e : lw (k + 1) (0 + 1) = 1 := (lw_ok (0 + 1) (by omega)).uniq (Lw.mk' (by
        have := bin_big (k := k + 1) (c := 1) (by omega); omega) (.inr (by rw [show k + 1 + (1 - 1) = k + 1 by omega, bin_self]; exact Nat.le_refl _)))
      rw [e, bin_self, show 0 + 1 - 1 = 0 by omega, rl_zero]
      rfl
    · have hc := lw_ok (k := k + 1) n (by omega)
      by_cases hlt : n + 1 < bin (k + 1 + lw (k + 1) n) (k + 1)
      · have e : lw (k + 1) (n + 1) = lw (k + 1) n := (lw_ok (n + 1) (by omega)).uniq ⟨hlt, fun d hd => Nat.le_succ_of_le (hc.2 d hd)⟩
        cases k with
        | zero =>
          exfalso
          have h1 := rest_zero hn
          rw [bin_one] at h1 hlt
          have h2 := top_le (k := 0) hn
          rw [bin_one] at h2
          omega
        | succ k =>
          have hT := top_le (k := k + 1) hn
          obtain ⟨m, hm, hs⟩ := rl_step k (n - bin (k + 1 + lw (k + 1 + 1) n) (k + 1 + 1))
          refine ⟨m + 1, ?_, ?_⟩
          · rw [rl_succ hn, List.length_cons]; omega
          · rw [rl_succ (n := n + 1) (by omega), e, rl_succ hn, show n + 1 - bin (k + 1 + lw (k + 1 + 1) n) (k + 1 + 1) = n - bin (k + 1 + lw (k + 1 + 1) n) (k + 1 + 1) + 1 by omega, hs]
            simp
      · have e0 : n + 1 = bin (k + 1 + lw (k + 1) n) (k + 1) := by have := hc.1; omega
        have e : lw (k + 1) (n + 1) = lw (k + 1) n + 1 := (lw_ok (n + 1) (by omega)).uniq (Lw.mk' (by
          rw [e0]; exact bin_strict (by omega) (by omega) (by omega)) (.inr (by rw [show lw (k + 1) n + 1 - 1 = lw (k + 1) n by omega]; omega)))
        refine ⟨0, Nat.zero_le _, ?_⟩
        rw [rl_succ (n := n + 1) (by omega), e, show k + (lw (k + 1) n + 1) = k + 1 + lw (k + 1) n by omega, ← e0, Nat.sub_self, rl_zero]
        have := rl_sum (k + 1) n (fun h => by omega)
        simp [this]
        omega
/-- just behind a lifetime there is one run -/
theorem rl_edge {k c : Nat} (hk : 1 ≤ k) : rl k (bin (k + c) k) = [bin (k + c) k] := by
  obtain ⟨j, rfl⟩ : ∃ j, k = j + 1 := ⟨k - 1, by omega⟩
  have hp := bin_pos (n := j + 1 + c) (k := j + 1) (by omega)
  have e : lw (j + 1) (bin (j + 1 + c) (j + 1)) = c + 1 := (lw_ok _ (by omega)).uniq (Lw.mk' (bin_strict (by omega) (by omega) (by omega)) (.inr (by rw [show c + 1 - 1 = c by omega]; exact Nat.le_refl _)))
  rw [rl_succ (by omega), e, show j + (c + 1) = j + 1 + c by omega, Nat.sub_self, rl_zero]
/-- each term is a binomial coefficient, with falling upper numbers -/
theorem rl_tops : ∀ k n a : Nat, n < bin a k → ∃ ts : List Nat, ts.length = (rl k n).length ∧ (∀ i t, ts[i]? = some t → (rl k n)[i]? = some (bin t (k - i)) ∧ k - i ≤ t ∧ 1 ≤ k - i ∧ t < a) ∧ ∀ i t u, ts[i]? = some t → ts[i + 1]? = some u → u < t
  | 0, n, a, h => ⟨[], by simp [rl], by simp, by simp⟩
  | k + 1, n, a, h => by
    by_cases hn : n = 0
    · subst hn; exact ⟨[], by rw [rl_zero], by simp, by simp⟩
    · have h1 := lw_pos (k := k + 1) (by omega) hn
      have hlt : k + lw (k + 1) n < a := by
        have h2 := top_le (k := k) hn
        by_cases c : k + lw (k + 1) n < a
        · exact c
        · have := bin_mono (n := a) (m := k + lw (k + 1) n) (k + 1) (by omega); omega
      obtain ⟨ts, e1, e2, e3⟩ := rl_tops k (n - bin (k + lw (k + 1) n) (k + 1)) (k + lw (k + 1) n) (rest_lt hn)
      refine ⟨(k + lw (k + 1) n) :: ts, by rw [rl_succ hn]; simp [e1], ?_, ?_⟩
      · intro i t ht
        cases i with
        | zero =>
          simp only [List.getElem?_cons_zero, Option.some.injEq] at ht
          subst ht
          refine ⟨by rw [rl_succ hn]; rfl, by omega, by omega, hlt⟩
        | succ i =>
          simp only [List.getElem?_cons_succ] at ht
          obtain ⟨g1, g2, g3, g4⟩ := e2 i t ht
          refine ⟨by rw [rl_succ hn, List.getElem?_cons_succ, show k + 1 - (i + 1) = k - i by omega]; exact g1, by omega, by omega, by omega⟩
      · intro i t u ht hu
        cases i with
        | zero =>
          simp only [List.getElem?_cons_zero, Option.some.injEq] at ht
          simp only [List.getElem?_cons_succ] at hu
          subst ht
          exact (e2 0 u hu).2.2.2
        | succ i =>
          simp only [List.getElem?_cons_succ] at ht hu
          exact e3 i t u ht hu
end MB

set_option maxHeartbeats 4000000
namespace MB
/-! ### states: the greatest of the newer runs, what is left -/
def mx : List Nat → Nat
  | [] => 0
  | x :: xs => max x (mx xs)
theorem mx_cons (x : Nat) (xs : List Nat) : mx (x :: xs) = max x (mx xs) := rfl
theorem mx_fold : ∀ (xs : List Nat) (x : Nat), (xs.map (fun (m : Nat) => (m : Int))).foldl max (x : Int) = ((mx (x :: xs) : Nat) : Int)
  | [], x => by simp [mx]
  | y :: ys, x => by
    rw [List.map_cons, List.foldl_cons, show max (x : Int) (y : Int) = ((max x y : Nat) : Int) by omega, mx_fold ys (max x y)]
    simp only [mx]
    omega
theorem mx_le {c : Nat} : ∀ {xs : List Nat}, (∀ x, x ∈ xs → x ≤ c) → mx xs ≤ c
  | [], _ => Nat.zero_le _
  | x :: xs, h => by
    have h1 := h x (List.mem_cons_self ..)
    have h2 := mx_le (c := c) (xs := xs) fun y hy => h y (List.mem_cons_of_mem _ hy)
    rw [mx_cons]; omega
theorem mx_mem {x : Nat} : ∀ {xs : List Nat}, x ∈ xs → x ≤ mx xs
  | y :: ys, h => by
    rw [mx_cons]
    rcases List.mem_cons.mp h with h | h
    · subst h; omega
    · have := mx_mem h; omega
/-- a state within (k, c) -/
def Sta (k c : Nat) (st : List Nat) : Prop := st.length ≤ k ∧ ∀ x, x ∈ st → 1 ≤ x ∧ x ≤ c
theorem Sta.tail {k c x : Nat} {xs : List Nat} (h : Sta k c (x :: xs)) : Sta (k - 1) (mx (x :: xs)) xs :=
  ⟨by have := h.1; rw [List.length_cons] at this; omega, fun y hy => ⟨(h.2 y (List.mem_cons_of_mem _ hy)).1, by have := mx_mem hy; rw [mx_cons]; omega⟩⟩
theorem Sta.mx_le {k c : Nat} {st : List Nat} (h : Sta k c st) : mx st ≤ c := MB.mx_le fun x hx => (h.2 x hx).2
theorem Sta.mx_pos {k c x : Nat} {xs : List Nat} (h : Sta k c (x :: xs)) : 1 ≤ mx (x :: xs) := by
  have := (h.2 x (List.mem_cons_self ..)).1
  rw [mx_cons]; omega
theorem Sta.mono {k c k' c' : Nat} {st : List Nat} (h : Sta k c st) (h1 : k ≤ k') (h2 : c ≤ c') : Sta k' c' st :=
  ⟨by have := h.1; omega, fun x hx => ⟨(h.2 x hx).1, by have := (h.2 x hx).2; omega⟩⟩
/-- as the program adds it up -/
def remv : Nat → Nat → List Nat → Int
  | k, c, [] => (bin (k + c) k : Int) - 1
  | k, c, x :: xs => ((bin (k + c) k : Int) - (bin (k + mx (x :: xs)) k : Int)) + remv (k - 1) (mx (x :: xs)) xs
/-- what each run takes off -/
def brd : Nat → List Nat → Nat
  | _, [] => 0
  | k, x :: xs => bin (k + mx (x :: xs) - 1) k + brd (k - 1) xs
theorem pascal {k m : Nat} (hk : 1 ≤ k) (hm : 1 ≤ m) : bin (k + m) k = bin (k - 1 + m) (k - 1) + bin (k + m - 1) k := by
  obtain ⟨j, rfl⟩ : ∃ j, k = j + 1 := ⟨k - 1, by omega⟩
  rw [show j + 1 + m = (j + m) + 1 by omega, bin_succ, show j + 1 - 1 + m = j + m by omega, show j + 1 - 1 = j by omega, show j + m + 1 - 1 = j + m by omega]
theorem remv_brd : ∀ {k c : Nat} {st : List Nat}, Sta k c st → remv k c st = (bin (k + c) k : Int) - 1 - (brd k st : Int)
  | k, c, [], _ => by simp [remv, brd]
  | k, c, x :: xs, h => by
    have h1 := remv_brd h.tail
    have hk : 1 ≤ k := by have := h.1; rw [List.length_cons] at this; omega
    have hp := pascal hk h.mx_pos
    simp only [remv, brd]
    rw [h1]
    omega
theorem brd_le : ∀ {k c : Nat} {st : List Nat}, Sta k c st → brd k st + 1 ≤ bin (k + c) k
  | k, c, [], _ => by have := bin_pos (n := k + c) (k := k) (by omega); simp [brd]; omega
  | k, c, x :: xs, h => by
    have h1 := brd_le h.tail
    have hk : 1 ≤ k := by have := h.1; rw [List.length_cons] at this; omega
    have hp := pascal hk h.mx_pos
    have hm := bin_mono (n := k + mx (x :: xs)) (m := k + c) k (by have := h.mx_le; omega)
    simp only [brd]
    omega
theorem brd_room : ∀ {k c : Nat} {st : List Nat}, Sta k c st → 1 ≤ c → brd (k + 1) st + 1 ≤ brd k st + bin (k + c) (k + 1)
  | k, c, [], _, hc => by have := bin_pos (n := k + c) (k := k + 1) (by omega); simp [brd]; omega
  | k, c, x :: xs, h, hc => by
    have hk : 1 ≤ k := by have := h.1; rw [List.length_cons] at this; omega
    have h1 := brd_room h.tail h.mx_pos
    obtain ⟨j, rfl⟩ : ∃ j, k = j + 1 := ⟨k - 1, by omega⟩
    have hp := h.mx_pos
    have hm := bin_mono (n := j + 1 + mx (x :: xs)) (m := j + 1 + c) (j + 1 + 1) (by have := h.mx_le; omega)
    simp only [brd]
    rw [show j + 1 + 1 - 1 = j + 1 by omega, show j + 1 - 1 = j by omega] at *
    generalize mx (x :: xs) = M at *
    obtain ⟨m, rfl⟩ : ∃ m, M = m + 1 := ⟨M - 1, by omega⟩
    have e1 : bin (j + 1 + 1 + (m + 1) - 1) (j + 1 + 1) = bin (j + (m + 1)) (j + 1) + bin (j + 1 + m) (j + 1 + 1) := by
      rw [show j + 1 + 1 + (m + 1) - 1 = (j + m + 1) + 1 by omega, bin_succ, show j + m + 1 = j + (m + 1) by omega, show j + 1 + m = j + (m + 1) by omega]
    have e2 : bin (j + 1 + (m + 1)) (j + 1 + 1) = bin (j + (m + 1)) (j + 1) + bin (j + 1 + m) (j + 1 + 1) := by
      rw [show j + 1 + (m + 1) = (j + (m + 1)) + 1 by omega, bin_succ, show j + 1 + m = j + (m + 1) by omega]
    rw [show j + 1 + (m + 1) - 1 = j + (m + 1) by omega]
    omega
/-- element by element at most -/
def Le2 : List Nat → List Nat → Prop
  | [], _ => True
  | _ :: _, [] => False
  | x :: xs, y :: ys => x ≤ y ∧ Le2 xs ys
theorem Le2.refl : ∀ xs : List Nat, Le2 xs xs
  | [] => trivial
  | _ :: xs => ⟨Nat.le_refl _, Le2.refl xs⟩
theorem Le2.mx : ∀ {xs ys : List Nat}, Le2 xs ys → mx xs ≤ mx ys
  | [], _, _ => Nat.zero_le _
  | _ :: _, _ :: _, h => by
    have := Le2.mx h.2
    have := h.1
    rw [mx_cons, mx_cons]; omega
theorem Le2.brd : ∀ {k : Nat} {xs ys : List Nat}, Le2 xs ys → brd k xs ≤ brd k ys
  | _, [], _, _ => Nat.zero_le _
  | k, x :: xs, y :: ys, h => by
    have h1 := Le2.brd (k := k - 1) h.2
    have h2 := Le2.mx (xs := x :: xs) (ys := y :: ys) h
    have h3 := bin_mono (n := k + MB.mx (x :: xs) - 1) (m := k + MB.mx (y :: ys) - 1) k (by omega)
    simp only [MB.brd]
    omega
theorem Le2.dropLast : ∀ xs : List Nat, Le2 xs.dropLast xs
  | [] => trivial
  | [_] => trivial
  | x :: y :: xs => ⟨Nat.le_refl _, Le2.dropLast (y :: xs)⟩
theorem Le2.set : ∀ {xs : List Nat} {i v x : Nat}, xs[i]? = some x → v ≤ x → Le2 (xs.set i v) xs
  | [], i, v, x, h, _ => by simp at h
  | y :: ys, 0, v, x, h, hv => by
    simp at h; subst h
    exact ⟨hv, Le2.refl _⟩
  | y :: ys, i + 1, v, x, h, hv => ⟨Nat.le_refl _, Le2.set (by simpa using h) hv⟩
theorem brd_tail : ∀ {k x : Nat} {xs : List Nat}, brd k xs ≤ brd k (x :: xs)
  | k, x, [] => Nat.zero_le _
  | k, x, y :: ys => by
    have h1 := brd_tail (k := k - 1) (x := y) (xs := ys)
    have h3 := bin_mono (n := k + mx (y :: ys) - 1) (m := k + mx (x :: y :: ys) - 1) k (by simp only [mx]; omega)
    show bin (k + mx (y :: ys) - 1) k + brd (k - 1) ys ≤ bin (k + mx (x :: y :: ys) - 1) k + brd (k - 1) (y :: ys)
    omega
end MB

set_option maxHeartbeats 4000000
namespace MB
/-- the state after a flush that merges m runs -/
def sa (st : List Nat) (m : Nat) : List Nat := st.take (st.length - m) ++ [1 + mx (st.drop (st.length - m))]
theorem mx_append : ∀ xs ys : List Nat, mx (xs ++ ys) = max (mx xs) (mx ys)
  | [], ys => by simp [mx]
  | x :: xs, ys => by rw [List.cons_append, mx_cons, mx_cons, mx_append xs ys]; omega
theorem sa_all (st : List Nat) : sa st st.length = [1 + mx st] := by simp [sa]
theorem sa_cons {x : Nat} {xs : List Nat} {m : Nat} (h : m ≤ xs.length) : sa (x :: xs) m = x :: sa xs m := by
  unfold sa
  rw [List.length_cons, show xs.length + 1 - m = (xs.length - m) + 1 by omega]
  simp
theorem sa_len {st : List Nat} {m : Nat} (h : m ≤ st.length) : (sa st m).length = st.length - m + 1 := by
  unfold sa
  rw [List.length_append, List.length_take]
  simp
theorem sa_mx {st : List Nat} {m : Nat} : mx st ≤ mx (sa st m) := by
  unfold sa
  rw [mx_append]
  have h := mx_append (st.take (st.length - m)) (st.drop (st.length - m))
  rw [List.take_append_drop] at h
  simp only [mx]
  omega
/-- elements from 1 on, as many as there is room for -/
def Pos (k : Nat) (st : List Nat) : Prop := st.length ≤ k ∧ ∀ x, x ∈ st → 1 ≤ x
theorem Sta.pos {k c : Nat} {st : List Nat} (h : Sta k c st) : Pos k st := ⟨h.1, fun x hx => (h.2 x hx).1⟩
theorem Pos.sta {k : Nat} {st : List Nat} (h : Pos k st) : Sta k (mx st) st := ⟨h.1, fun x hx => ⟨h.2 x hx, mx_mem hx⟩⟩
theorem Pos.tail {k x : Nat} {xs : List Nat} (h : Pos k (x :: xs)) : Pos (k - 1) xs ∧ 1 ≤ k ∧ 1 ≤ x :=
  ⟨⟨by have := h.1; rw [List.length_cons] at this; omega, fun y hy => h.2 y (List.mem_cons_of_mem _ hy)⟩, by have := h.1; rw [List.length_cons] at this; omega, h.2 x (List.mem_cons_self ..)⟩
theorem brd_one (k v : Nat) : brd k [1 + v] = bin (k + v) k := by
  simp only [brd, mx]
  rw [show k + max (1 + v) 0 - 1 = k + v by omega]; rfl
/-- every flush costs at least one -/
theorem brd_sa : ∀ {k : Nat} {st : List Nat} {m : Nat}, Pos k st → m ≤ st.length → brd k st + 1 ≤ brd k (sa st m)
  | k, [], m, h, hm => by
    have : m = 0 := by simpa using hm
    subst this
    show brd k [] + 1 ≤ brd k [1 + 0]
    rw [brd_one, show k + 0 = k by omega, bin_self]
    simp [brd]
  | k, x :: xs, m, h, hm => by
    by_cases e : m = xs.length + 1
    · subst e
      rw [show xs.length + 1 = (x :: xs).length from rfl, sa_all, brd_one]
      exact brd_le h.sta
    · have hm' : m ≤ xs.length := by rw [List.length_cons] at hm; omega
      obtain ⟨h1, hk, hx⟩ := h.tail
      have ih := brd_sa h1 hm'
      rw [sa_cons hm']
      have hm2 := sa_mx (st := xs) (m := m)
      have hb := bin_mono (n := k + mx (x :: xs) - 1) (m := k + mx (x :: sa xs m) - 1) k (by rw [mx_cons, mx_cons]; omega)
      simp only [brd]
      omega
/-- what stands before the merged runs is greater than they are; these are exhausted -/
def Tight (k : Nat) (st : List Nat) (j : Nat) : Prop := (j = 0 ∨ ∃ y, st[j - 1]? = some y ∧ mx (st.drop j) < y) ∧ brd (k - j) (st.drop j) + 1 = bin (k - j + mx (st.drop j)) (k - j)
theorem brd_sa_eq : ∀ {k : Nat} {st : List Nat} {m : Nat}, Pos k st → m ≤ st.length → (brd k (sa st m) = brd k st + 1 ↔ Tight k st (st.length - m))
  | k, [], m, h, hm => by
    have : m = 0 := by simpa using hm
    subst this
    have e1 : brd k (sa [] 0) = 1 := by
      show brd k [1 + 0] = 1
      rw [brd_one, show k + 0 = k by omega, bin_self]
    rw [e1]
    refine ⟨fun _ => ⟨.inl rfl, ?_⟩, fun _ => by simp [brd]⟩
    simp only [List.drop_nil, mx, brd, List.length_nil]
    rw [show k - (0 - 0) + 0 = k - (0 - 0) by omega, bin_self]
  | k, x :: xs, m, h, hm => by
    by_cases e : m = xs.length + 1
    · subst e
      rw [show xs.length + 1 = (x :: xs).length from rfl, sa_all, brd_one, Nat.sub_self]
      constructor
      · intro e
        refine ⟨.inl rfl, ?_⟩
        simp only [Nat.sub_zero, List.drop_zero]
        omega
      · rintro ⟨_, e⟩
        simp only [Nat.sub_zero, List.drop_zero] at e
        omega
    · have hm' : m ≤ xs.length := by rw [List.length_cons] at hm; omega
      obtain ⟨h1, hk, hx⟩ := h.tail
      have ih := brd_sa_eq h1 hm'
      have ih1 := brd_sa h1 hm'
      rw [sa_cons hm']
      have hm2 := sa_mx (st := xs) (m := m)
      have hb := bin_mono (n := k + mx (x :: xs) - 1) (m := k + mx (x :: sa xs m) - 1) k (by rw [mx_cons, mx_cons]; omega)
      have hJ : (x :: xs).length - m = (xs.length - m) + 1 := by rw [List.length_cons]; omega
      rw [hJ]
      have hd : (x :: xs).drop (xs.length - m + 1) = xs.drop (xs.length - m) := rfl
      have hkk : k - (xs.length - m + 1) = k - 1 - (xs.length - m) := by omega
      have e1 : brd k (x :: sa xs m) = bin (k + mx (x :: sa xs m) - 1) k + brd (k - 1) (sa xs m) := rfl
      have e2 : brd k (x :: xs) = bin (k + mx (x :: xs) - 1) k + brd (k - 1) xs := rfl
      have step : brd k (x :: sa xs m) = brd k (x :: xs) + 1 ↔ (mx (x :: sa xs m) = mx (x :: xs) ∧ brd (k - 1) (sa xs m) = brd (k - 1) xs + 1) := by
        constructor
        · intro e
          have hq : bin (k + mx (x :: sa xs m) - 1) k = bin (k + mx (x :: xs) - 1) k := by omega
          refine ⟨?_, by omega⟩
          by_cases c : mx (x :: sa xs m) = mx (x :: xs)
          · exact c
          · have h0 : 1 ≤ mx (x :: xs) := by rw [mx_cons]; omega
            have h00 : mx (x :: xs) < mx (x :: sa xs m) := by rw [mx_cons, mx_cons] at c ⊢; omega
            have := bin_strict (n := k + mx (x :: xs) - 1) (m := k + mx (x :: sa xs m) - 1) (k := k) hk (by omega) (by omega)
            omega
        · rintro ⟨c1, c2⟩
          rw [e1, e2, c1, c2]; omega
      rw [step, ih]
      unfold Tight
      rw [hd, hkk]
      have hdec : mx xs = max (mx (xs.take (xs.length - m))) (mx (xs.drop (xs.length - m))) := by
        rw [← mx_append, List.take_append_drop]
      have hsa : mx (sa xs m) = max (mx (xs.take (xs.length - m))) (1 + mx (xs.drop (xs.length - m))) := by
        unfold sa; rw [mx_append]; simp [mx]
      constructor
      · rintro ⟨c1, c2, c3⟩
        refine ⟨.inr ?_, c3⟩
        rcases c2 with c2 | ⟨y, y1, y2⟩
        · rw [c2] at hsa hdec ⊢
          simp only [List.take_zero, mx] at hsa hdec
          refine ⟨x, rfl, ?_⟩
          rw [mx_cons, mx_cons] at c1
          omega
        · by_cases z : xs.length - m = 0
          · rw [z] at hsa hdec ⊢
            simp only [List.take_zero, mx] at hsa hdec
            refine ⟨x, rfl, ?_⟩
            rw [mx_cons, mx_cons] at c1
            omega
          · refine ⟨y, ?_, y2⟩
            rw [show xs.length - m + 1 - 1 = (xs.length - m - 1) + 1 by omega, List.getElem?_cons_succ]
            exact y1
      · rintro ⟨c2, c3⟩
        rcases c2 with c2 | ⟨y, y1, y2⟩
        · omega
        · by_cases z : xs.length - m = 0
          · rw [z] at y1 y2 hsa hdec c3 ⊢
            simp only [List.take_zero, mx] at hsa hdec
            have : y = x := by simpa using y1.symm
            subst this
            refine ⟨by rw [mx_cons, mx_cons]; omega, .inl rfl, c3⟩
          · rw [show xs.length - m + 1 - 1 = (xs.length - m - 1) + 1 by omega, List.getElem?_cons_succ] at y1
            have hy : y ≤ mx (xs.take (xs.length - m)) := by
              refine mx_mem (List.mem_of_getElem? (i := xs.length - m - 1) ?_)
              rw [List.getElem?_take, if_pos (by omega)]; exact y1
            refine ⟨by rw [mx_cons, mx_cons]; omega, .inr ⟨y, y1, y2⟩, c3⟩
/-- nothing is left: no room, and the newest run at the limit -/
theorem exh_iff : ∀ {k R : Nat} {xs : List Nat}, Sta k R xs → (brd k xs + 1 = bin (k + R) k ↔ (R = 0 ∨ (xs.length = k ∧ ∀ y, xs.getLast? = some y → y = R)))
  | k, R, [], h => by
    simp only [brd, List.length_nil, List.getLast?_nil]
    constructor
    · intro e
      by_cases hR : R = 0
      · exact .inl hR
      · refine .inr ⟨?_, by simp⟩
        by_cases hk : k = 0
        · exact hk.symm
        · have := bin_big (k := k) (c := R) (by omega); omega
    · rintro (rfl | ⟨rfl, _⟩)
      · show 0 + 1 = bin k k
        rw [bin_self]
      · rw [bin_zero]
  | k, R, x :: xs, h => by
    have hk : 1 ≤ k := by have := h.1; rw [List.length_cons] at this; omega
    have hM := h.mx_pos
    have hMR := h.mx_le
    have ht := h.tail
    have hp := pascal hk hM
    have hle := brd_le ht
    have e2 : brd k (x :: xs) = bin (k + mx (x :: xs) - 1) k + brd (k - 1) xs := rfl
    have hR : R ≠ 0 := by omega
    have key : brd k (x :: xs) + 1 = bin (k + R) k ↔ (mx (x :: xs) = R ∧ brd (k - 1) xs + 1 = bin (k - 1 + R) (k - 1)) := by
      constructor
      · intro e
        have hmm : mx (x :: xs) = R := by
          by_cases c : mx (x :: xs) = R
          · exact c
          · have := bin_strict (n := k + mx (x :: xs)) (m := k + R) (k := k) hk (by omega) (by omega)
            omega
        rw [hmm] at hp e2
        exact ⟨hmm, by omega⟩
      · rintro ⟨c1, c2⟩
        rw [c1] at hp e2
        omega
    rw [key]
    constructor
    · rintro ⟨c1, c2⟩
      rw [c1] at ht
      rcases (exh_iff ht).mp c2 with c | ⟨c3, c4⟩
      · exact absurd c hR
      · refine .inr ⟨by rw [List.length_cons]; omega, fun y hy => ?_⟩
        cases xs with
        | nil =>
          have : y = x := by simpa using hy.symm
          subst this
          simpa [mx] using c1
        | cons z zs =>
          rw [List.getLast?_cons_cons] at hy
          exact c4 y hy
    · rintro (c | ⟨c3, c4⟩)
      · exact absurd c hR
      · have hlast : ∃ y, (x :: xs).getLast? = some y := ⟨(x :: xs).getLast (by simp), List.getLast?_eq_some_getLast (by simp)⟩
        obtain ⟨y, hy⟩ := hlast
        have hyR := c4 y hy
        subst hyR
        have hmm : mx (x :: xs) = y := by
          have := mx_mem (List.mem_of_getLast? hy)
          omega
        refine ⟨hmm, ?_⟩
        rw [hmm] at ht
        refine (exh_iff ht).mpr (.inr ⟨by rw [List.length_cons] at c3; omega, fun z hz => ?_⟩)
        cases xs with
        | nil => simp at hz
        | cons u us =>
          rw [List.getLast?_cons_cons] at hy
          rw [hz] at hy
          exact Option.some.inj hy
/-- the bound of what is merged: the next older run, or the limit of writes -/
def bnd (c : Nat) (st : List Nat) (j : Nat) : Nat := (c :: st).getD j 0
def tst (c : Nat) (st : List Nat) (m : Nat) : Prop := mx (st.drop (st.length - m)) < bnd c st (st.length - m)
def few (k : Nat) (st : List Nat) : Nat := if st.length < k then 0 else 1
/-- what best_merge returns -/
def Bm (k c : Nat) (st : List Nat) (m : Nat) : Prop := few k st ≤ m ∧ m ≤ st.length ∧ tst c st m ∧ ∀ m', few k st ≤ m' → m' < m → ¬ tst c st m'
def BmN (k c : Nat) (st : List Nat) : Prop := ∀ m, few k st ≤ m → m ≤ st.length → ¬ tst c st m
theorem bnd_zero {c : Nat} {st : List Nat} : bnd c st 0 = c := rfl
theorem bnd_succ {c j : Nat} {st : List Nat} {y : Nat} (h : st[j]? = some y) : bnd c st (j + 1) = y := by
  simp [bnd, List.getD_eq_getElem?_getD, h]
/-- while no test holds, the greatest of the merged runs is the newest one -/
theorem chain {c : Nat} {st : List Nat} {m : Nat} (hm : m ≤ st.length) (hno : ∀ m', 1 ≤ m' → m' < m → ¬ tst c st m') (h1 : 1 ≤ m) : ∀ y, st.getLast? = some y → mx (st.drop (st.length - m)) = y := by
  induction m with
  | zero => omega
  | succ m ih =>
    intro y hy
    by_cases hm0 : m = 0
    · subst hm0
      have hne : st ≠ [] := by intro e; subst e; simp at hy
      have hpos := List.length_pos_iff.mpr hne
      have e : st.drop (st.length - (0 + 1)) = [st.getLast hne] := by
        rw [List.drop_eq_getElem_cons (show st.length - (0 + 1) < st.length by omega), show st.length - (0 + 1) + 1 = st.length by omega, List.drop_length, List.getLast_eq_getElem]
      rw [e]
      rw [List.getLast?_eq_some_getLast hne] at hy
      have := Option.some.inj hy
      simp [mx, this]
    · have ih' := ih (by omega) (fun m' a b => hno m' a (by omega)) (by omega) y hy
      have hf := hno m (by omega) (by omega)
      have hj : st.length - m = (st.length - (m + 1)) + 1 := by omega
      have hlt : st.length - (m + 1) < st.length := by omega
      have ed : st.drop (st.length - (m + 1)) = st[st.length - (m + 1)] :: st.drop (st.length - m) := by
        rw [hj]; exact List.drop_eq_getElem_cons hlt
      unfold tst at hf
      rw [hj, bnd_succ (List.getElem?_eq_getElem hlt), ← hj] at hf
      rw [ed, mx_cons]
      omega
theorem last_mem {st : List Nat} {y : Nat} (h : st.getLast? = some y) : y ∈ st := List.mem_of_getLast? h
theorem sa_sta {k c : Nat} {st : List Nat} {m : Nat} (h : Sta k c st) (hm : m ≤ st.length) (h1 : st.length - m + 1 ≤ k) (h2 : 1 + mx (st.drop (st.length - m)) ≤ c) : Sta k c (sa st m) := by
  refine ⟨by rw [sa_len hm]; exact h1, fun x hx => ?_⟩
  unfold sa at hx
  rcases List.mem_append.mp hx with hx | hx
  · exact h.2 x (List.mem_of_mem_take hx)
  · have : x = 1 + mx (st.drop (st.length - m)) := by simpa using hx
    subst this
    omega
theorem tst_ok {k c : Nat} {st : List Nat} {m : Nat} (h : Sta k c st) (hm : m ≤ st.length) (ht : tst c st m) : 1 + mx (st.drop (st.length - m)) ≤ c ∧ (st.length - m = 0 ∨ ∃ y, st[st.length - m - 1]? = some y ∧ mx (st.drop (st.length - m)) < y) := by
  unfold tst at ht
  by_cases hj : st.length - m = 0
  · rw [hj, bnd_zero] at ht
    exact ⟨by rw [hj]; omega, .inl hj⟩
  · have hlt : st.length - m - 1 < st.length := by omega
    have e : st.length - m = (st.length - m - 1) + 1 := by omega
    have hb := bnd_succ (c := c) (List.getElem?_eq_getElem hlt)
    rw [← e] at hb
    rw [hb] at ht
    have := h.2 _ (List.getElem_mem hlt)
    exact ⟨by omega, .inr ⟨_, List.getElem?_eq_getElem hlt, ht⟩⟩
theorem Bm.good {k c : Nat} {st : List Nat} {m : Nat} (h : Sta k c st) (b : Bm k c st m) : Sta k c (sa st m) ∧ brd k (sa st m) = brd k st + 1 := by
  obtain ⟨b1, b2, b3, b4⟩ := b
  obtain ⟨t1, t2⟩ := tst_ok h b2 b3
  have hl := h.1
  by_cases hk : st.length < k
  · have hf : few k st = 0 := if_pos hk
    have hm0 : m = 0 := by
      by_cases c0 : m = 0
      · exact c0
      · exfalso
        refine b4 0 (by omega) (by omega) ?_
        unfold tst
        rw [Nat.sub_zero, List.drop_length]
        have hlt : st.length - 1 < st.length := by omega
        have e : st.length = (st.length - 1) + 1 := by omega
        have hb := bnd_succ (c := c) (List.getElem?_eq_getElem hlt)
        rw [← e] at hb
        rw [hb]
        exact (h.2 _ (List.getElem_mem hlt)).1
    subst hm0
    refine ⟨sa_sta h b2 (by omega) t1, (brd_sa_eq h.pos b2).mpr ⟨t2, ?_⟩⟩
    rw [Nat.sub_zero, List.drop_length]
    show 0 + 1 = bin (k - st.length) (k - st.length)
    rw [bin_self]
  · have hf : few k st = 1 := if_neg hk
    rw [hf] at b1 b4
    refine ⟨sa_sta h b2 (by omega) t1, (brd_sa_eq h.pos b2).mpr ⟨t2, ?_⟩⟩
    have hne : st ≠ [] := by intro e; subst e; simp at b2; omega
    have hy : st.getLast? = some (st.getLast hne) := List.getLast?_eq_some_getLast hne
    have hc := chain b2 b4 b1 _ hy
    have hS : Sta (k - (st.length - m)) (mx (st.drop (st.length - m))) (st.drop (st.length - m)) :=
      ⟨by rw [List.length_drop]; omega, fun x hx => ⟨(h.2 x (List.mem_of_mem_drop hx)).1, mx_mem hx⟩⟩
    refine (exh_iff hS).mpr (.inr ⟨by rw [List.length_drop]; omega, fun y hy2 => ?_⟩)
    rw [hc]
    rw [List.getLast?_drop, if_neg (by omega), hy] at hy2
    exact (Option.some.inj hy2).symm
theorem BmN.zero {k c : Nat} {st : List Nat} (h : Sta k c st) (b : BmN k c st) : brd k st + 1 = bin (k + c) k := by
  have hl := h.1
  refine (exh_iff h).mpr ?_
  by_cases hk : st.length < k
  · have hf : few k st = 0 := if_pos hk
    have h0 := b 0 (by omega) (by omega)
    unfold tst at h0
    rw [Nat.sub_zero, List.drop_length] at h0
    by_cases hn : st.length = 0
    · rw [hn, bnd_zero] at h0
      simp only [mx] at h0
      exact .inl (by omega)
    · exfalso
      have hlt : st.length - 1 < st.length := by omega
      have e : st.length = (st.length - 1) + 1 := by omega
      have hb := bnd_succ (c := c) (List.getElem?_eq_getElem hlt)
      rw [← e] at hb
      rw [hb] at h0
      have := (h.2 _ (List.getElem_mem hlt)).1
      simp only [mx] at h0
      omega
  · have hf : few k st = 1 := if_neg hk
    refine .inr ⟨by omega, fun y hy => ?_⟩
    have hne : st ≠ [] := by intro e; subst e; simp at hy
    have h1 : 1 ≤ st.length := by have := List.length_pos_iff.mpr hne; omega
    have hc := chain (c := c) (Nat.le_refl _) (fun m' a b' => b m' (by omega) (by omega)) h1 y hy
    have hlast := b st.length (by omega) (Nat.le_refl _)
    unfold tst at hlast
    rw [Nat.sub_self, bnd_zero] at hlast
    rw [Nat.sub_self] at hc
    have := (h.2 y (last_mem hy)).2
    omega
/-- only one merge costs just one -/
theorem good_uniq {k c : Nat} {st : List Nat} {m n : Nat} (h : Sta k c st) (hm : m ≤ st.length) (hn : n ≤ st.length) (s1 : Sta k c (sa st m)) (s2 : Sta k c (sa st n)) (e1 : brd k (sa st m) = brd k st + 1) (e2 : brd k (sa st n) = brd k st + 1) : m = n := by
  have hl := h.1
  have look : ∀ m, m ≤ st.length → Sta k c (sa st m) → brd k (sa st m) = brd k st + 1 → (m = 0 ∧ st.length < k) ∨ (1 ≤ m ∧ st.length = k ∧ (∀ y, st.getLast? = some y → y = mx (st.drop (st.length - m))) ∧ (st.length - m = 0 ∨ ∃ y, st[st.length - m - 1]? = some y ∧ mx (st.drop (st.length - m)) < y)) := fun m hm s e => by
    obtain ⟨t1, t2⟩ := (brd_sa_eq h.pos hm).mp e
    have hs := s.1
    rw [sa_len hm] at hs
    by_cases h0 : m = 0
    · exact .inl ⟨h0, by omega⟩
    · refine .inr ⟨by omega, ?_⟩
      have hS : Sta (k - (st.length - m)) (mx (st.drop (st.length - m))) (st.drop (st.length - m)) :=
        ⟨by rw [List.length_drop]; omega, fun x hx => ⟨(h.2 x (List.mem_of_mem_drop hx)).1, mx_mem hx⟩⟩
      rcases (exh_iff hS).mp t2 with c | ⟨c1, c2⟩
      · exfalso
        have hlt : st.length - m < st.length := by omega
        have hmem : st[st.length - m] ∈ st.drop (st.length - m) := by
          rw [List.drop_eq_getElem_cons hlt]; exact List.mem_cons_self ..
        have := mx_mem hmem
        have := (h.2 _ (List.getElem_mem hlt)).1
        omega
      · rw [List.length_drop] at c1
        refine ⟨by omega, fun y hy => c2 y ?_, t1⟩
        rw [List.getLast?_drop, if_neg (by omega)]; exact hy
  have order : ∀ m n, m ≤ st.length → n ≤ st.length → m < n → Sta k c (sa st m) → Sta k c (sa st n) → brd k (sa st m) = brd k st + 1 → brd k (sa st n) = brd k st + 1 → False := fun m n hm hn hlt s1 s2 e1 e2 => by
    rcases look m hm s1 e1 with ⟨a1, a2⟩ | ⟨a1, a2, a3, a4⟩
    · rcases look n hn s2 e2 with ⟨b1, b2⟩ | ⟨b1, b2, b3, b4⟩ <;> omega
    · rcases look n hn s2 e2 with ⟨b1, b2⟩ | ⟨b1, b2, b3, b4⟩
      · omega
      · have hne : st ≠ [] := by intro e; subst e; simp at hn; omega
        have hy : st.getLast? = some (st.getLast hne) := List.getLast?_eq_some_getLast hne
        have q1 := a3 _ hy
        have q2 := b3 _ hy
        rcases a4 with a4 | ⟨y, y1, y2⟩
        · omega
        · have hmem : y ∈ st.drop (st.length - n) := by
            refine List.mem_of_getElem? (i := (st.length - m - 1) - (st.length - n)) ?_
            rw [List.getElem?_drop, show st.length - n + (st.length - m - 1 - (st.length - n)) = st.length - m - 1 by omega]
            exact y1
          have := mx_mem hmem
          omega
  rcases Nat.lt_trichotomy m n with c | c | c
  · exact (order m n hm hn c s1 s2 e1 e2).elim
  · exact c
  · exact (order n m hn hm c s2 s1 e2 e1).elim
end MB

set_option maxHeartbeats 4000000
namespace MB
/-- no newer run is above an older one -/
def Desc (st : List Nat) : Prop := st.Pairwise fun x y => y ≤ x
theorem Desc.mx {x : Nat} {xs : List Nat} (h : Desc (x :: xs)) : mx (x :: xs) = x := by
  have h1 := (List.pairwise_cons.mp h).1
  have := MB.mx_le (c := x) h1
  rw [mx_cons]; omega
theorem Desc.tail {x : Nat} {xs : List Nat} (h : Desc (x :: xs)) : Desc xs := (List.pairwise_cons.mp h).2
/-- the lengths of the runs -/
def lens : Nat → List Nat → List Nat
  | _, [] => []
  | k, x :: xs => bin (k + x - 1) k :: lens (k - 1) xs
theorem lens_len : ∀ (k : Nat) (st : List Nat), (lens k st).length = st.length
  | _, [] => rfl
  | k, x :: xs => by simp [lens, lens_len (k - 1) xs]
theorem lw_desc {k x : Nat} {xs : List Nat} (h : Pos k (x :: xs)) (d : Desc (x :: xs)) : lw k (brd k (x :: xs)) = x := by
  obtain ⟨h1, hk, hx⟩ := h.tail
  have hb := brd_le h.sta
  have e : brd k (x :: xs) = bin (k + mx (x :: xs) - 1) k + brd (k - 1) xs := rfl
  rw [d.mx] at hb e
  refine (lw_ok _ hk).uniq (Lw.mk' (by omega) (.inr ?_))
  rw [show k + (x - 1) = k + x - 1 by omega]
  omega
theorem rl_desc : ∀ {k : Nat} {st : List Nat}, Pos k st → Desc st → rl k (brd k st) = lens k st
  | k, [], _, _ => by simp [brd, lens, rl_zero]
  | k, x :: xs, h, d => by
    have hl := lw_desc h d
    obtain ⟨h1, hk, hx⟩ := h.tail
    have ih := rl_desc h1 d.tail
    have e : brd k (x :: xs) = bin (k + x - 1) k + brd (k - 1) xs := by
      show bin (k + mx (x :: xs) - 1) k + brd (k - 1) xs = _
      rw [d.mx]
    obtain ⟨j, rfl⟩ : ∃ j, k = j + 1 := ⟨k - 1, by omega⟩
    have hp := bin_pos (n := j + 1 + x - 1) (k := j + 1) (by omega)
    have hne : brd (j + 1) (x :: xs) ≠ 0 := by omega
    rw [rl_succ hne, hl]
    have e2 : j + x = j + 1 + x - 1 := by omega
    rw [e2, e]
    show _ :: _ = bin (j + 1 + x - 1) (j + 1) :: lens (j + 1 - 1) xs
    rw [show bin (j + 1 + x - 1) (j + 1) + brd (j + 1 - 1) xs - bin (j + 1 + x - 1) (j + 1) = brd (j + 1 - 1) xs by omega, show j + 1 - 1 = j by omega]
    rw [show j + 1 - 1 = j by omega] at ih
    rw [ih]
theorem rl_desc_len {k : Nat} {st : List Nat} (h : Pos k st) (d : Desc st) : (rl k (brd k st)).length = st.length := by rw [rl_desc h d, lens_len]
theorem sa_desc {st : List Nat} {m : Nat} (d : Desc st) (hm : m ≤ st.length) (t : st.length - m = 0 ∨ ∃ y, st[st.length - m - 1]? = some y ∧ mx (st.drop (st.length - m)) < y) : Desc (sa st m) := by
  unfold sa Desc
  refine List.pairwise_append.mpr ⟨d.sublist (List.take_sublist _ _), List.pairwise_singleton _ _, fun x hx v hv => ?_⟩
  have hv' : v = 1 + mx (st.drop (st.length - m)) := by simpa using hv
  subst hv'
  rcases t with t | ⟨y, y1, y2⟩
  · rw [t] at hx; simp at hx
  · obtain ⟨i, hi⟩ := List.getElem?_of_mem hx
    rw [List.getElem?_take] at hi
    by_cases c : i < st.length - m
    · rw [if_pos c] at hi
      have hyx : y ≤ x := by
        by_cases e : i = st.length - m - 1
        · subst e; rw [y1] at hi; have := Option.some.inj hi; omega
        · obtain ⟨q1, r1⟩ := List.getElem?_eq_some_iff.mp hi
          obtain ⟨q2, r2⟩ := List.getElem?_eq_some_iff.mp y1
          have := List.pairwise_iff_getElem.mp d i (st.length - m - 1) q1 q2 (by omega)
          omega
      omega
    · rw [if_neg c] at hi; cases hi
theorem Bm.tight {k c : Nat} {st : List Nat} {m : Nat} (h : Sta k c st) (b : Bm k c st m) : st.length - m = 0 ∨ ∃ y, st[st.length - m - 1]? = some y ∧ mx (st.drop (st.length - m)) < y := (tst_ok h b.2.1 b.2.2.1).2
/-- the policy's merges and states -/
def pm (k n : Nat) : Nat := (rl k n).length + 1 - (rl k (n + 1)).length
def pst (k : Nat) : Nat → List Nat
  | 0 => []
  | n + 1 => sa (pst k n) (pm k n)
theorem bm_ex {k c : Nat} {st : List Nat} (h : Sta k c st) (hlt : brd k st + 1 < bin (k + c) k) : ∃ m, Bm k c st m := by
  by_cases e : ∃ m, few k st ≤ m ∧ m ≤ st.length ∧ tst c st m
  · obtain ⟨m, hm⟩ := e
    induction m using Nat.strongRecOn with
    | ind m ih =>
      by_cases c' : ∃ m', m' < m ∧ few k st ≤ m' ∧ m' ≤ st.length ∧ tst c st m'
      · obtain ⟨m', h1, h2⟩ := c'
        exact ih m' h1 h2
      · exact ⟨m, hm.1, hm.2.1, hm.2.2, fun m' a b t => c' ⟨m', b, a, by have := hm.2.1; omega, t⟩⟩
  · exfalso
    have := BmN.zero h fun m a b t => e ⟨m, a, b, t⟩
    omega
/-- the best merge from a descending state is the policy's -/
theorem bm_pm {k c : Nat} {st : List Nat} {m : Nat} (h : Sta k c st) (d : Desc st) (b : Bm k c st m) : m = pm k (brd k st) ∧ Sta k c (sa st m) ∧ Desc (sa st m) ∧ brd k (sa st m) = brd k st + 1 := by
  obtain ⟨g1, g2⟩ := b.good h
  have d2 := sa_desc d b.2.1 (b.tight h)
  refine ⟨?_, g1, d2, g2⟩
  unfold pm
  rw [rl_desc_len h.pos d, ← g2, rl_desc_len g1.pos d2, sa_len b.2.1]
  have := b.2.1
  omega
theorem sta_of {k c : Nat} {st : List Nat} (h : Pos k st) (d : Desc st) (hc : brd k st < bin (k + c) k) : Sta k c st := by
  refine ⟨h.1, fun x hx => ⟨h.2 x hx, ?_⟩⟩
  cases st with
  | nil => cases hx
  | cons y ys =>
    have h1 := lw_desc h d
    have h2 := mx_mem hx
    rw [d.mx] at h2
    obtain ⟨_, hk, _⟩ := h.tail
    have h3 := (lw_ok (brd k (y :: ys)) hk).2
    rw [h1] at h3
    by_cases e : y ≤ c
    · omega
    · have := h3 c (by omega); omega
theorem pst_ok {k : Nat} (hk : 1 ≤ k) : ∀ n, Pos k (pst k n) ∧ Desc (pst k n) ∧ brd k (pst k n) = n
  | 0 => ⟨⟨by simp [pst], by simp [pst]⟩, List.Pairwise.nil, rfl⟩
  | n + 1 => by
    obtain ⟨h1, h2, h3⟩ := pst_ok hk n
    have hb := bin_big (k := k) (c := n + 2) hk
    have hs := sta_of (c := n + 2) h1 h2 (by omega)
    obtain ⟨m, b⟩ := bm_ex hs (by omega)
    obtain ⟨e, g1, g2, g3⟩ := bm_pm hs h2 b
    rw [h3] at e g3
    subst e
    exact ⟨g1.pos, g2, g3⟩
theorem pm_le {k : Nat} (hk : 1 ≤ k) (n : Nat) : pm k n ≤ (pst k n).length := by
  obtain ⟨h1, h2, h3⟩ := pst_ok hk n
  have hb := bin_big (k := k) (c := n + 2) hk
  have hs := sta_of (c := n + 2) h1 h2 (by omega)
  obtain ⟨m, b⟩ := bm_ex hs (by omega)
  obtain ⟨e, _⟩ := bm_pm hs h2 b
  rw [h3] at e
  subst e
  exact b.2.1
theorem pst_len {k : Nat} (hk : 1 ≤ k) (n : Nat) : (pst k n).length = (rl k n).length := by
  obtain ⟨h1, h2, h3⟩ := pst_ok hk n
  have := rl_desc_len h1 h2
  rw [h3] at this
  exact this.symm
theorem pm_int {k : Nat} (hk : 1 ≤ k) (n : Nat) : ((rl k n).length : Int) + 1 - ((rl k (n + 1)).length : Int) = (pm k n : Int) := by
  have h1 := pst_len hk n
  have h2 := pst_len hk (n + 1)
  have h3 := pm_le hk n
  have h4 : (pst k (n + 1)).length = (pst k n).length - pm k n + 1 := sa_len h3
  unfold pm at *
  omega
end MB

set_option maxHeartbeats 4000000
namespace MB
open PySem PySem.Spec PyProof.Rows L2
theorem alike_ints (ns : List Int) : PySem.W.AlikeAll (ns.map PyData.int) := by
  refine ⟨fun x hx y hy => ?_, fun x hx e => ?_⟩
  · obtain ⟨i, _, rfl⟩ := List.mem_map.mp hx
    obtain ⟨j, _, rfl⟩ := List.mem_map.mp hy
    simp [PySem.W.alike]
  · obtain ⟨i, _, rfl⟩ := List.mem_map.mp hx
    cases e
theorem depth_ints : ∀ ns : List Int, PyData.depthAll (ns.map PyData.int) = 0
  | [] => by simp [PyData.depthAll]
  | n :: ns => by simp [PyData.depthAll, PyData.depth, depth_ints ns]
/-! ### max of a tuple of ints; with default= -/
def rMaxT (K : PySem.W.Frag) : List V → Hp → VK → Prop := fun xs H Q => ∃ (a : Addr) (n : Int) (ns : List Int), xs = [V.ref a] ∧ SqT K H a ((n :: ns).map V.int) ∧ Q (.int (ns.foldl max n)) H
theorem cr_maxT {X : Cx} {K : PySem.W.Frag} (hK : X.K = K) (hc : X.calm = true) (hu : X.A.units + 64 < cLine) : CallR X (.builtin "max") (rMaxT K) := by
  subst hK
  intro pins s σ H vs us Q I r h
  obtain ⟨a, n, ns, rfl, hs, q⟩ := h
  obtain ⟨its, rv, hl, _⟩ := I.tuple hs
  rw [Vals.ref1 r]
  obtain ⟨as, rd⟩ := Dp.readsAll I ((n :: ns).map PyData.int) _ its (dp_ints (n :: ns)) rv
  refine PySem.W.max_tuple_data (x := .int n) (xs := ns.map PyData.int) (I.ok.hd hc) hl (by simpa using rd) (alike_ints (n :: ns)) ?_ fun i v h' tk bs _ hr hk => ?_
  · have := depth_ints (n :: ns)
    rw [List.map_cons] at this
    rw [this]; omega
  · rw [PySem.W.maxD_ints] at hr
    cases hr
    exact ⟨.int _, H, I.kept hk, ⟨_, rfl⟩, q⟩
def rMaxDef (K : PySem.W.Frag) : List V → List V → Hp → VK → Prop := fun xs zs H Q => ∃ (a : Addr) (z : Int) (ns : List Int), xs = [V.ref a] ∧ zs = [V.int z] ∧ SqT K H a (ns.map V.int) ∧ (ns = [] → Q (.int z) H) ∧ ∀ m r, ns = m :: r → Q (.int (r.foldl max m)) H
theorem cr_maxDef {X : Cx} {K : PySem.W.Frag} (hK : X.K = K) (hc : X.calm = true) (hu : X.A.units + 64 < cLine) : CallRK X (.builtin "max") [Str.ofString "default"] (rMaxDef K) := by
  subst hK
  intro pins s σ H vs zs us ws Q I r rz h
  obtain ⟨a, z, ns, rfl, rfl, hs, q0, q1⟩ := h
  obtain ⟨its, rv, hl, _⟩ := I.tuple hs
  rw [Vals.ref1 r]
  obtain ⟨u, rfl, tz, rfl⟩ := vals1 rz
  obtain ⟨as, rd⟩ := Dp.readsAll I (ns.map PyData.int) _ its (dp_ints ns) rv
  refine PySem.W.max_tuple_default (xs := ns.map PyData.int) (I.ok.hd hc) hl (by simpa using rd) (alike_ints ns) ?_ (fun e h' tk hk => ?_) fun y ys i v h' tk bs e _ hr hk => ?_
  · rw [depth_ints ns]; omega
  · exact ⟨.int z, H, I.kept hk, ⟨_, rfl⟩, q0 (List.map_eq_nil_iff.mp e)⟩
  · cases ns with
    | nil => cases e
    | cons m t =>
      rw [List.map_cons] at e
      cases e
      rw [PySem.W.maxD_ints] at hr
      cases hr
      exact ⟨.int _, H, I.kept hk, ⟨_, rfl⟩, q1 m t rfl⟩
/-! ### sorted of a tuple of ints -/
section
variable {prog : Program} {w : World} {A : Around} {E : Value → Shared → Prop} {s : Shared}
theorem gather_tuple {p : Addr} {xs : List Value} {R : List Value → Shared → Prop} (ht : s.heap.IsTuple p xs.toArray) (hz : xs.length ≤ sizeLine)
    (q : R xs { s with heap := (s.heap.push (seqObj "list" #[] 0)).update s.heap.objs.size (Obj.mapSeq (· ++ xs.toArray)) }) : wpAny (model prog w) A (collect (.ref p)) R E s := by
  obtain ⟨ob, hob, hcl, ep, hdt⟩ := id ht
  unfold collect
  refine wpAny_bind (wpAny_runValue (codeAny_builtin entry_proto_collect' (show wpAny _ _ (do again (.builtin "list.__iadd__" ⟨[← newList [], .ref p], []⟩)) _ _ s from ?_)))
  refine wpAny_bind (wpAny_newList (wpAny_pure ⟨Code.quiet_builtin _ (by decide +kernel), codeAny_builtin entry_list_iadd' (show wpAny _ _ (Builtin.List.listExtendWith (.ref s.heap.objs.size) (.ref p) (.ref s.heap.objs.size)) _ _ { s with heap := s.heap.push (seqObj "list" #[] 0) } from ?_)⟩))
  unfold Builtin.List.listExtendWith
  have hob' : (s.heap.push (seqObj "list" #[] 0)).get? p = some ob := Heap.get?_push_of_some _ hob
  refine wpAny_bind (wpAny_typeOf (T := "tuple") ⟨ob, hob', hcl⟩ ?_)
  have tt : (Value.type "tuple" == Value.type "tuple") = true := by rfl
  rw [if_pos (by rw [tt]; simp)]
  refine wpAny_bind (listItems_at hob' hdt (wpAny_bind (listItems_at (xs := #[]) (n := 0) (Heap.get?_push_size _ rfl) rfl ?_)))
  rw [if_neg (by simp)]
  refine wpAny_bind (listUpdate_at (xs := #[]) (n := 0) (Heap.get?_push_size _ rfl) rfl (wpAny_pure ?_) (Nat.zero_le _) (by show (#[] ++ xs.toArray).size ≤ sizeLine + 1; simp only [Array.size_append, List.size_toArray, List.length_nil]; omega))
  show wpAny (model prog w) A (load s.heap.objs.size >>= _) R E { s with heap := (s.heap.push (seqObj "list" #[] 0)).update s.heap.objs.size (Obj.mapSeq (· ++ xs.toArray)) }
  refine wpAny_bind (wpAny_load (get?_update_seq (Heap.get?_push_size _ rfl) _) (show wpAny _ _ (pure ((#[] : Array Value) ++ xs.toArray).toList) R E _ from ?_))
  have ex : ((#[] : Array Value) ++ xs.toArray).toList = xs := by simp
  rw [ex]
  exact wpAny_pure q
theorem sorted_tup {p : Addr} {xs : List Value} {ns : List Int} {Q : Value → Shared → Prop} (ht : s.heap.IsTuple p xs.toArray) (hz : xs.length ≤ sizeLine) (hi : IntsAre xs ns)
    (q : ∀ out : List Value, SrtO.Srtd SrtO.ltIv out → SrtO.Stb SrtO.ltIv out xs → Q (.ref (s.heap.objs.size + 1)) { s with heap := sortedAll s.heap xs out.toArray }) :
    wpAny (model prog w) A (call (.builtin "sorted") [.ref p]) Q E s := by
  refine Calls.call_function_entry kind_sorted plain_sorted entry_sorted (args_sorted1 _) ?_
  unfold Builtin.«sorted»
  refine wpAny_bind (m := checkCount "sorted" 1 1 _) (wpAny_pure (wpAny_bind (gather_tuple ht hz (wpAny_bind (wpAny_newList ?_ hz)))))
  have sz1 : ((s.heap.push (seqObj "list" #[] 0)).update s.heap.objs.size (Obj.mapSeq (· ++ xs.toArray))).objs.size = s.heap.objs.size + 1 := (Heap.size_update ..).trans (Heap.size_push ..)
  have hoL := Heap.get?_push_size ((s.heap.push (seqObj "list" #[] 0)).update s.heap.objs.size (Obj.mapSeq (· ++ xs.toArray))) (o := seqObj "list" xs.toArray 0) rfl
  rw [sz1] at hoL
  show wpAny _ _ _ _ _ { s with heap := ((s.heap.push (seqObj "list" #[] 0)).update s.heap.objs.size (Obj.mapSeq (· ++ xs.toArray))).push (seqObj "list" xs.toArray 0) }
  rw [sz1]
  exact wpAny_bind (wpAny_holding (wpAny_call_entry PyProof.Rows.slot_list_sort ⟨_, hoL, rfl⟩ PyProof.Rows.entry_list_sort (SrtO.list_sort_ord SrtO.swo_int hoL hz (fun h2 => SrtO.ints_sortable hi h2) fun out hs hb => ⟨_, rfl, wpAny_pure ⟨_, rfl, q out hs hb⟩⟩) (PyProof.Rows.args_list_sort _)))
end
def rSortT (K : PySem.W.Frag) : List V → Hp → VK → Prop := fun xs H Q => ∃ (a : Addr) (ns : List Int), xs = [V.ref a] ∧ SqT K H a (ns.map V.int) ∧ ∀ (ms : List Int) (p : Addr), ms.Perm ns → H p = none → Q (.ref p) (upd H p (.lst (ms.map V.int)))
theorem cr_sortTI {X : Cx} : CallR X (.builtin "sorted") (rSortT X.K) := by
  intro pins s σ H vs us Q I r h
  obtain ⟨a, ns, rfl, hs, q⟩ := h
  obtain ⟨its, rv, hl, hz⟩ := I.tuple hs
  rw [Vals.ref1 r]
  have hi := rv.ints
  refine sorted_tup hl (by rw [← rv.length]; exact hz) hi fun out h1 h2 => ?_
  obtain ⟨k1, k2, k3⟩ := SrtO.ints_out hi h1 h2
  obtain ⟨ep, he'⟩ := sortedAll_at s.heap its out.toArray
  have hlen : ((out.map SrtO.iv).map V.int).length ≤ sizeLine := by
    have := k2.length_eq
    simp only [List.length_map] at this hz ⊢
    omega
  exact ⟨.ref _, upd H (s.heap.objs.size + 1) (.lst ((out.map SrtO.iv).map V.int)), I.laid (t' := s.toks) (fun _ _ e => sortedAll_old e) (Nat.le_succ _) ⟨hlen, out, ep, vals_of_ints k1, he'⟩, rfl, q _ _ k2 (I.hok.fresh (Nat.le_succ _))⟩
end MB

set_option maxHeartbeats 4000000
namespace MB
open PySem PySem.Spec PyProof.Rows L2
def topS (i : Nat) : Stmt := PySem.Challenge.pw_mergebudget_k11_schedules_counted_within.main.body.getD i (.Pass ⟨0, 0, 0, 0⟩)
abbrev s_is_int : Stmt := topS 6
abbrev N_is_int : List Str := ["value"]
theorem sc_is_int : FnScope N_is_int ["value"] (defScope s_is_int) := ⟨rfl, rfl, rfl, by decide +kernel, rfl, by decide +kernel, by decide +kernel⟩
abbrev s_is_count : Stmt := topS 7
abbrev N_is_count : List Str := ["value"]
theorem sc_is_count : FnScope N_is_count ["value"] (defScope s_is_count) := ⟨rfl, rfl, rfl, by decide +kernel, rfl, by decide +kernel, by decide +kernel⟩
abbrev s_is_count_up_to : Stmt := topS 8
abbrev N_is_count_up_to : List Str := ["value", "most"]
theorem sc_is_count_up_to : FnScope N_is_count_up_to ["value", "most"] (defScope s_is_count_up_to) := ⟨rfl, rfl, rfl, by decide +kernel, rfl, by decide +kernel, by decide +kernel⟩
abbrev s_check_budgets : Stmt := topS 9
abbrev N_check_budgets : List Str := ["k", "c", "most", "budget"]
theorem sc_check_budgets : FnScope N_check_budgets ["k", "c", "most"] (defScope s_check_budgets) := ⟨rfl, rfl, rfl, by decide +kernel, rfl, by decide +kernel, by decide +kernel⟩
abbrev s_check_flushes : Stmt := topS 12
abbrev N_check_flushes : List Str := ["n"]
theorem sc_check_flushes : FnScope N_check_flushes ["n"] (defScope s_check_flushes) := ⟨rfl, rfl, rfl, by decide +kernel, rfl, by decide +kernel, by decide +kernel⟩
abbrev s_count_within : Stmt := topS 13
abbrev N_count_within : List Str := ["n", "k", "c"]
theorem sc_count_within : FnScope N_count_within ["n", "k", "c"] (defScope s_count_within) := ⟨rfl, rfl, rfl, by decide +kernel, rfl, by decide +kernel, by decide +kernel⟩
abbrev s_counts_within : Stmt := topS 14
abbrev N_counts_within : List Str := ["n", "k", "c", "counts", "b", "a", "most"]
theorem sc_counts_within : FnScope N_counts_within ["n", "k", "c"] (defScope s_counts_within) := ⟨rfl, rfl, rfl, by decide +kernel, rfl, by decide +kernel, by decide +kernel⟩
abbrev s_counts_by_size : Stmt := topS 15
abbrev N_counts_by_size : List Str := ["lefts", "rights", "counts", "below", "left", "right"]
theorem sc_counts_by_size : FnScope N_counts_by_size ["lefts", "rights"] (defScope s_counts_by_size) := ⟨rfl, rfl, rfl, by decide +kernel, rfl, by decide +kernel, by decide +kernel⟩
abbrev s_L_piles : Stmt := topS 17
abbrev N_L_piles : List Str := ["_law_plan", "_law_piles", "_law_found", "_law_flush", "_law_merge", "_law_newest", "_law_turn"]
theorem sc_L_piles : FnScope N_L_piles ["_law_plan"] (defScope s_L_piles) := ⟨rfl, rfl, rfl, by decide +kernel, rfl, by decide +kernel, by decide +kernel⟩
abbrev s_L_written : Stmt := topS 18
abbrev N_L_written : List Str := ["_law_plan", "_law_found", "_law_piles", "_law_flush"]
theorem sc_L_written : FnScope N_L_written ["_law_plan"] (defScope s_L_written) := ⟨rfl, rfl, rfl, by decide +kernel, rfl, by decide +kernel, by decide +kernel⟩
abbrev s_L_all : Stmt := topS 19
abbrev N_L_all : List Str := ["_law_size", "_law_found", "_law_flush", "_law_longer", "_law_plan", "_law_merge"]
theorem sc_L_all : FnScope N_L_all ["_law_size"] (defScope s_L_all) := ⟨rfl, rfl, rfl, by decide +kernel, rfl, by decide +kernel, by decide +kernel⟩
abbrev s_law : Stmt := topS 20
abbrev N_law : List Str := ["_law_script", "_law_size", "_law_most", "_law_plan", "_law_deep", "_law_often", "_law_runs", "_law_due", "_law_piles", "_law_pair"]
theorem sc_law : FnScope N_law ["_law_script"] (defScope s_law) := ⟨rfl, rfl, rfl, by decide +kernel, rfl, by decide +kernel, by decide +kernel⟩
structure Tx (K : PySem.W.Frag) (mg : Str → Option Value) where
  a_is_int : Addr
  fd_is_int : FuncData
  f_is_int : Fun K "is_int" "is_int" s_is_int a_is_int fd_is_int
  g_is_int : mg "is_int" = some (.ref a_is_int)
  bd_is_int : Binds K fd_is_int ["value"] []
  a_is_count : Addr
  fd_is_count : FuncData
  f_is_count : Fun K "is_count" "is_count" s_is_count a_is_count fd_is_count
  g_is_count : mg "is_count" = some (.ref a_is_count)
  bd_is_count : Binds K fd_is_count ["value"] []
  a_is_count_up_to : Addr
  fd_is_count_up_to : FuncData
  f_is_count_up_to : Fun K "is_count_up_to" "is_count_up_to" s_is_count_up_to a_is_count_up_to fd_is_count_up_to
  g_is_count_up_to : mg "is_count_up_to" = some (.ref a_is_count_up_to)
  bd_is_count_up_to : Binds K fd_is_count_up_to ["value", "most"] []
  a_check_budgets : Addr
  fd_check_budgets : FuncData
  f_check_budgets : Fun K "check_budgets" "check_budgets" s_check_budgets a_check_budgets fd_check_budgets
  g_check_budgets : mg "check_budgets" = some (.ref a_check_budgets)
  bd_check_budgets : Binds K fd_check_budgets ["k", "c", "most"] []
  a_check_flushes : Addr
  fd_check_flushes : FuncData
  f_check_flushes : Fun K "check_flushes" "check_flushes" s_check_flushes a_check_flushes fd_check_flushes
  g_check_flushes : mg "check_flushes" = some (.ref a_check_flushes)
  bd_check_flushes : Binds K fd_check_flushes ["n"] []
  a_count_within : Addr
  fd_count_within : FuncData
  f_count_within : Fun K "count_within" "count_within" s_count_within a_count_within fd_count_within
  g_count_within : mg "count_within" = some (.ref a_count_within)
  bd_count_within : Binds K fd_count_within ["n", "k", "c"] []
  kb_count_within_c_n_k : KBinds K fd_count_within ["n", "k", "c"] ["c", "n", "k"] (gP [1, 2, 0]) (gP [1, 2, 0])
  a_counts_within : Addr
  fd_counts_within : FuncData
  f_counts_within : Fun K "counts_within" "counts_within" s_counts_within a_counts_within fd_counts_within
  g_counts_within : mg "counts_within" = some (.ref a_counts_within)
  bd_counts_within : Binds K fd_counts_within ["n", "k", "c"] []
  a_counts_by_size : Addr
  fd_counts_by_size : FuncData
  f_counts_by_size : Fun K "counts_by_size" "counts_by_size" s_counts_by_size a_counts_by_size fd_counts_by_size
  g_counts_by_size : mg "counts_by_size" = some (.ref a_counts_by_size)
  bd_counts_by_size : Binds K fd_counts_by_size ["lefts", "rights"] []
  a_L_piles : Addr
  fd_L_piles : FuncData
  f_L_piles : Fun K "_law_sched_piles" "_law_sched_piles" s_L_piles a_L_piles fd_L_piles
  g_L_piles : mg "_law_sched_piles" = some (.ref a_L_piles)
  bd_L_piles : Binds K fd_L_piles ["_law_plan"] []
  a_L_written : Addr
  fd_L_written : FuncData
  f_L_written : Fun K "_law_sched_written" "_law_sched_written" s_L_written a_L_written fd_L_written
  g_L_written : mg "_law_sched_written" = some (.ref a_L_written)
  bd_L_written : Binds K fd_L_written ["_law_plan"] []
  a_L_all : Addr
  fd_L_all : FuncData
  f_L_all : Fun K "_law_sched_all" "_law_sched_all" s_L_all a_L_all fd_L_all
  g_L_all : mg "_law_sched_all" = some (.ref a_L_all)
  bd_L_all : Binds K fd_L_all ["_law_size"] []
  a_law : Addr
  fd_law : FuncData
  f_law : Fun K "law" "law" s_law a_law fd_law
  g_law : mg "law" = some (.ref a_law)
  bd_law : Binds K fd_law ["_law_script"] []
  b_isinstance : mg "isinstance" = none
  b_int : mg "int" = none
  b_bool : mg "bool" = none
  b_range : mg "range" = none
  b_max : mg "max" = none
  b_len : mg "len" = none
  b_sum : mg "sum" = none
  b_zip : mg "zip" = none
  b_enumerate : mg "enumerate" = none
  b_list : mg "list" = none
  b_repr : mg "repr" = none
  t_MOST_BUDGET : Tok
  c_MOST_BUDGET : mg "MOST_BUDGET" = some (.int (60) t_MOST_BUDGET)
  t_MOST_FLUSHES : Tok
  c_MOST_FLUSHES : mg "MOST_FLUSHES" = some (.int (60) t_MOST_FLUSHES)
section
variable {P : Program} {w : World} {K : PySem.W.Frag} {mg : Str → Option Value} {base : Heap}
def sp_is_int (K : PySem.W.Frag) : Sp := fun vs H Q _ => ∃ i : Int, vs = [.int i] ∧ Q (.bl true) H
theorem ok_is_int (TX : Tx K mg) : FnOk P w K mg base CX0 1 TX.a_is_int TX.fd_is_int ["value"] (sp_is_int K) := by
  refine TX.f_is_int.ok sc_is_int (fun vs H Q E h => ?_) (fun cdv A outer s H vs Q E hr h => ?_)
  · obtain ⟨i, rfl, _⟩ := h; rfl
  · obtain ⟨i, rfl, q⟩ := h
    refine ⟨_, (pss_one (ps_ret (pe_and (pe_callB (id := "isinstance") (k_isi (K := K) rfl) (by rfl) TX.b_isinstance (by decide +kernel) (pa_cons (pv 0) (pa_cons (pe_bltn (v := .ty "int") (by rfl) TX.b_int (by decide +kernel) rfl) pa_nil))) (pe_one (pe_not (pe_callB (id := "isinstance") (k_isi (K := K) rfl) (by rfl) TX.b_isinstance (by decide +kernel) (pa_cons (pv 0) (pa_cons (pe_bltn (v := .ty "bool") (by rfl) TX.b_bool (by decide +kernel) rfl) pa_nil)))))))), ?_⟩
    refine ⟨.int i, rfl, .int i, .ty "int", .type "int", .type "int", true, rfl, .ty _, .base (.int i), kit_ty (by decide +kernel), true, rfl, ?_⟩
    exact iteT ⟨.int i, rfl, .int i, .ty "bool", .type "int", .type "bool", false, rfl, .ty _, .base (.int i), kit_ty (by decide +kernel), false, rfl, q⟩
def sp_is_count (K : PySem.W.Frag) : Sp := fun vs H Q _ => ∃ i : Int, vs = [.int i] ∧ Q (.bl (decide (0 ≤ i))) H
theorem ok_is_count (TX : Tx K mg) : FnOk P w K mg base CX0 2 TX.a_is_count TX.fd_is_count ["value"] (sp_is_count K) := by
  refine TX.f_is_count.ok sc_is_count (fun vs H Q E h => ?_) (fun cdv A outer s H vs Q E hr h => ?_)
  · obtain ⟨i, rfl, _⟩ := h; rfl
  · obtain ⟨i, rfl, q⟩ := h
    refine ⟨_, (pss_one (ps_ret (pe_and (pe_call (ok_is_int TX) (hr.mono (by decide)) (by rfl) TX.g_is_int TX.f_is_int.kp TX.bd_is_int .nil pass0 (pa_cons (pv 0) pa_nil)) (pe_one (pe_cmpR op_ge (pv 0) pe_int (nomark _)))))), ?_⟩
    exact ⟨.int i, rfl, i, rfl, true, rfl, iteT ⟨.int i, rfl, i, 0, rfl, rfl, q⟩⟩
def sp_is_count_up_to (K : PySem.W.Frag) : Sp := fun vs H Q _ => ∃ i m : Int, vs = [.int i, .int m] ∧ Q (.bl (decide (0 ≤ i) && decide (i ≤ m))) H
theorem ok_is_count_up_to (TX : Tx K mg) : FnOk P w K mg base CX0 3 TX.a_is_count_up_to TX.fd_is_count_up_to ["value", "most"] (sp_is_count_up_to K) := by
  refine TX.f_is_count_up_to.ok sc_is_count_up_to (fun vs H Q E h => ?_) (fun cdv A outer s H vs Q E hr h => ?_)
  · obtain ⟨i, m, rfl, _⟩ := h; rfl
  · obtain ⟨i, m, rfl, q⟩ := h
    refine ⟨_, (pss_one (ps_ret (pe_and (pe_call (ok_is_count TX) (hr.mono (by decide)) (by rfl) TX.g_is_count TX.f_is_count.kp TX.bd_is_count .nil pass0 (pa_cons (pv 0) pa_nil)) (pe_one (pe_cmpR op_le (pv 0) (pv 1) (nomark _)))))), ?_⟩
    refine ⟨.int i, rfl, i, rfl, _, rfl, ?_⟩
    by_cases h0 : 0 ≤ i
    · rw [decide_eq_true h0] at q ⊢
      exact iteT ⟨.int i, rfl, .int m, rfl, i, m, rfl, rfl, q⟩
    · rw [decide_eq_false h0] at q ⊢
      exact iteF q
end
section
variable {P : Program} {w : World} {K : PySem.W.Frag} {mg : Str → Option Value} {base : Heap}
theorem min_nat (a b : Nat) : (if (b : Int) < (a : Int) then (b : Int) else (a : Int)) = ((min a b : Nat) : Int) := by
  by_cases h : b < a
  · rw [if_pos (by omega), Nat.min_eq_right (by omega)]
  · rw [if_neg (by omega), Nat.min_eq_left (by omega)]
theorem max_nat (a b : Nat) : (if (b : Int) > (a : Int) then (b : Int) else (a : Int)) = ((max a b : Nat) : Int) := by
  by_cases h : b > a
  · rw [if_pos (by omega), Nat.max_eq_right (by omega)]
  · rw [if_neg (by omega), Nat.max_eq_left (by omega)]
theorem bin_turn {n j : Nat} (h : j < n) : (bin n j : Int) * ((n : Int) - (j : Int)) / ((j : Int) + 1) = (bin n (j + 1) : Int) := by
  rw [← bin_div (n := n) (j := j) (by omega)]
  have e : ((n : Int) - (j : Int)) = ((n - j : Nat) : Int) := by omega
  rw [e]; norm_cast
end
section
variable {P : Program} {w : World} {K : PySem.W.Frag} {mg : Str → Option Value} {base : Heap}
def sp_check_budgets (K : PySem.W.Frag) : Sp := fun vs H Q _ => ∃ k c m : Int, vs = [.int k, .int c, .int m] ∧ 0 ≤ k ∧ k ≤ m ∧ 0 ≤ c ∧ c ≤ m ∧ ∀ H', Same H H' → Q .non H'
theorem ok_check_budgets (TX : Tx K mg) : FnOk P w K mg base CX0 4 TX.a_check_budgets TX.fd_check_budgets ["k", "c", "most"] (sp_check_budgets K) := by
  refine TX.f_check_budgets.ok sc_check_budgets (fun vs H Q E h => ?_) (fun cdv A outer s H vs Q E hr h => ?_)
  · obtain ⟨k, c, m, rfl, _⟩ := h; rfl
  · obtain ⟨k, c, m, rfl, k0, k1, c0, c1, q⟩ := h
    refine ⟨_, (pss_one (ps_for PassesOwn.never rfl (k_piT (K := K) rfl (pe_tup (pa_cons (pv 0) (pa_cons (pv 1) pa_nil)))) (pg_name (i := 3) sc_check_budgets.nd rfl (.inl rfl))
        (pss_one (ps_if (pt_not (pt_val (pe_call (ok_is_count_up_to TX) (hr.mono (by decide)) (by rfl) TX.g_is_count_up_to TX.f_is_count_up_to.kp TX.bd_is_count_up_to .nil pass0 (pa_cons (pv 3) (pa_cons (pv 2) pa_nil)))))
          (pss_one ps_never)
          pss_nil)))), ?_⟩
    refine ⟨_, rfl, _, rfl, sz60 (by simp), fun t nt => ⟨t, rfl, ⟨_, .inl (.inl upd_same)⟩, for_tup (K := K) (xs := [V.int k, V.int c]) (fun i σ H' => H' = upd H t (.tup [V.int k, V.int c]) ∧ ∃ y, σ = [some (.int k), some (.int c), some (.int m), y]) ⟨rfl, none, rfl⟩ (fun i σ H' _ h => by rw [h.1]; exact .inl (.inl upd_same)) ?_ ?_⟩⟩
    · rintro i x σ H' hx ⟨rfl, y, rfl⟩
      have hb : ∃ b : Int, x = .int b ∧ 0 ≤ b ∧ b ≤ m := by
        match i, hx with
        | 0, hx => cases hx; exact ⟨k, rfl, k0, k1⟩
        | 1, hx => cases hx; exact ⟨c, rfl, c0, c1⟩
        | i + 2, hx => simp at hx
      obtain ⟨b, rfl, b0, b1⟩ := hb
      exact ⟨_, rfl, _, rfl, _, _, rfl, true, by rw [decide_eq_true b0, decide_eq_true b1]; rfl, iteF ⟨rfl, _, rfl⟩⟩
    · rintro σ H' ⟨rfl, y, rfl⟩
      exact q _ (same_upd nt)
def isSta (k c : Nat) (st : List Nat) : Bool := decide (st.length ≤ k) && st.all fun x => decide (1 ≤ x) && decide (x ≤ c)
theorem isSta_iff {k c : Nat} {st : List Nat} : isSta k c st = true ↔ Sta k c st := by
  unfold isSta Sta
  simp only [Bool.and_eq_true, decide_eq_true_eq, List.all_eq_true]
end
section
variable {P : Program} {w : World} {K : PySem.W.Frag} {mg : Str → Option Value} {base : Heap}
def sp_check_flushes (K : PySem.W.Frag) : Sp := fun vs H Q _ => ∃ n : Nat, vs = [.int (n : Int)] ∧ n ≤ 60 ∧ Q .non H
theorem ok_check_flushes (TX : Tx K mg) : FnOk P w K mg base CX0 4 TX.a_check_flushes TX.fd_check_flushes ["n"] (sp_check_flushes K) := by
  refine TX.f_check_flushes.ok sc_check_flushes (fun vs H Q E h => ?_) (fun cdv A outer s H vs Q E hr h => ?_)
  · obtain ⟨n, rfl, _⟩ := h; rfl
  · obtain ⟨n, rfl, hn, q⟩ := h
    refine ⟨_, (pss_one (ps_if (pt_not (pt_val (pe_call (ok_is_count_up_to TX) (hr.mono (by decide)) (by rfl) TX.g_is_count_up_to TX.f_is_count_up_to.kp TX.bd_is_count_up_to .nil pass0 (pa_cons (pv 0) (pa_cons (pe_glob (v := .int (60)) (by rfl) TX.c_MOST_FLUSHES ⟨_, rfl⟩) pa_nil)))))
        (pss_one ps_never)
        pss_nil)), ?_⟩
    exact ⟨_, rfl, _, _, rfl, true, by rw [decide_eq_true (by omega), decide_eq_true (by omega)]; rfl, iteF q⟩
end
/-! ### how many trees of a size within budgets -/
def rowB (prev : Nat → Nat → Nat) : Nat → Nat → Nat
  | 0, s => if s = 0 then 1 else 0
  | _ + 1, 0 => 1
  | a + 1, s + 1 => ((List.range (s + 1)).map fun i => rowB prev a i * prev (a + 1) (s - i)).sum
def nB : Nat → Nat → Nat → Nat
  | 0 => fun _ s => if s = 0 then 1 else 0
  | b + 1 => rowB (nB b)
theorem nB_z : ∀ b a, nB b a 0 = 1
  | 0, _ => rfl
  | _ + 1, 0 => rfl
  | _ + 1, _ + 1 => rfl
theorem nB_l0 (a s : Nat) : nB 0 a s = if s = 0 then 1 else 0 := rfl
theorem nB_r0 : ∀ b s, nB b 0 s = if s = 0 then 1 else 0
  | 0, _ => rfl
  | _ + 1, _ => rfl
theorem nB_s (b a s : Nat) : nB (b + 1) (a + 1) (s + 1) = ((List.range (s + 1)).map fun i => nB (b + 1) a i * nB b (a + 1) (s - i)).sum := rfl
theorem sum_le {f : Nat → Nat} {B : Nat} : ∀ n, (∀ i, i < n → f i ≤ B) → ((List.range n).map f).sum ≤ n * B
  | 0, _ => by simp
  | n + 1, h => by
    rw [List.range_succ, List.map_append, List.sum_append]
    have h1 := sum_le n fun i hi => h i (by omega)
    have h2 := h n (by omega)
    simp only [List.map_cons, List.map_nil, List.sum_cons, List.sum_nil]
    rw [Nat.succ_mul]; omega
theorem nB_le : ∀ b a s, nB b a s ≤ 2 ^ (s * s) := fun b => by
  induction b with
  | zero => intro a s; rw [nB_l0]; (split; exact Nat.one_le_two_pow; exact Nat.zero_le _)
  | succ b ihb =>
    intro a
    induction a with
    | zero => intro s; rw [nB_r0]; (split; exact Nat.one_le_two_pow; exact Nat.zero_le _)
    | succ a iha =>
      intro s
      cases s with
      | zero => rw [nB_z]; exact Nat.one_le_two_pow
      | succ s =>
        rw [nB_s]
        refine Nat.le_trans (sum_le (B := 2 ^ (s * s)) (s + 1) fun i hi => ?_) ?_
        · obtain ⟨j, rfl⟩ : ∃ j, s = i + j := ⟨s - i, by omega⟩
          have h1 := iha i
          have h2 := ihb (a + 1) j
          rw [show i + j - i = j by omega]
          refine Nat.le_trans (Nat.mul_le_mul h1 h2) ?_
          rw [← Nat.pow_add]
          refine Nat.pow_le_pow_right (by decide) ?_
          have : (i + j) * (i + j) = i * i + j * j + 2 * (i * j) := by rw [Nat.add_mul, Nat.mul_add, Nat.mul_add, Nat.mul_comm j i]; omega
          omega
        · have h1 : s + 1 ≤ 2 ^ s := Nat.lt_two_pow_self
          refine Nat.le_trans (Nat.mul_le_mul_right _ h1) ?_
          rw [← Nat.pow_add]
          refine Nat.pow_le_pow_right (by decide) ?_
          have : (s + 1) * (s + 1) = s * s + 2 * s + 1 := by rw [Nat.add_mul, Nat.mul_add]; omega
          omega
theorem nB_lt {b a s : Nat} (h : s ≤ 60) : nB b a s < 2 ^ 4000 := by
  refine Nat.lt_of_le_of_lt (nB_le b a s) (Nat.pow_lt_pow_right (by decide) ?_)
  have := Nat.mul_le_mul h h
  omega
/-- the counts of a place of the table -/
def cwL (b a most : Nat) : List Nat := (List.range (most + 1)).map (nB b a)
theorem cwL_len (b a m : Nat) : (cwL b a m).length = m + 1 := by simp [cwL]
theorem cwL_get {b a m s : Nat} (h : s ≤ m) : (cwL b a m)[s]? = some (nB b a s) := by
  unfold cwL
  rw [List.getElem?_map, List.getElem?_range (by omega)]; rfl
theorem cwL_edge {b a m : Nat} (h : m = 0 ∨ b = 0 ∨ a = 0) : cwL b a m = 1 :: List.replicate m 0 := by
  refine List.ext_getElem? fun s => ?_
  by_cases hs : s ≤ m
  · rw [cwL_get hs]
    cases s with
    | zero => rw [nB_z]; rfl
    | succ s =>
      rw [List.getElem?_cons_succ, List.getElem?_replicate, if_pos (by omega)]
      rcases h with h | h | h
      · omega
      · subst h; rw [nB_l0, if_neg (by omega)]
      · subst h; rw [nB_r0, if_neg (by omega)]
  · rw [List.getElem?_eq_none (by rw [cwL_len]; omega), List.getElem?_eq_none (by simp; omega)]
def conv (xs ys : List Nat) : List Nat := 1 :: (List.range xs.length).map fun t => ((List.range (t + 1)).map fun i => xs.getD i 0 * ys.getD (t - i) 0).sum
theorem cwL_conv {b a m : Nat} : conv (cwL (b + 1) a m) (cwL b (a + 1) m) = cwL (b + 1) (a + 1) (m + 1) := by
  unfold conv
  rw [cwL_len]
  have e : cwL (b + 1) (a + 1) (m + 1) = 1 :: (List.range (m + 1)).map fun t => nB (b + 1) (a + 1) (t + 1) := by
    unfold cwL
    rw [List.range_succ_eq_map, List.map_cons, List.map_map, nB_z]
    rfl
  rw [e]
  congr 1
  refine List.map_congr_left fun t ht => ?_
  have ht := List.mem_range.mp ht
  rw [nB_s]
  congr 1
  refine List.map_congr_left fun i hi => ?_
  have hi := List.mem_range.mp hi
  rw [List.getD_eq_getElem?_getD, List.getD_eq_getElem?_getD, cwL_get (by omega), cwL_get (by omega)]
  rfl
/-! ### a dict whose values are lists of numbers that nobody changes -/
def TabL (K : PySem.W.Frag) (P : Program) (w : World) (H : Hp) (d : Addr) (N : Nat) (T : Nat → Nat → Option (List Nat)) : Prop :=
  ∃ kvs, DN K P w H d kvs ∧ kvs.length ≤ N ∧ ∀ (b a : Nat) (xs : List Nat), T b a = some xs → ∃ l, valV kvs [(b : Int), (a : Int)] = some (.ref l) ∧ l ≠ d ∧ H l = some (.lst (vi xs))
theorem TabL.same {K : PySem.W.Frag} {P : Program} {w : World} {H H' : Hp} {d : Addr} {N : Nat} {T : Nat → Nat → Option (List Nat)} (t : TabL K P w H d N T) (s : Same H H') : TabL K P w H' d N T := by
  obtain ⟨kvs, h1, h2, h3⟩ := t
  refine ⟨kvs, h1.same s, h2, fun b a xs e => ?_⟩
  obtain ⟨l, a1, a2, a3⟩ := h3 b a xs e
  exact ⟨l, a1, a2, s _ _ a3⟩
theorem TabL.extN {K : PySem.W.Frag} {P : Program} {w : World} {H : Hp} {d : Addr} {N : Nat} {T T' : Nat → Nat → Option (List Nat)} (t : TabL K P w H d N T) (h : ∀ b a xs, T' b a = some xs → T b a = some xs) : TabL K P w H d N T' := by
  obtain ⟨kvs, h1, h2, h3⟩ := t
  exact ⟨kvs, h1, h2, fun b a xs e => h3 b a xs (h b a xs e)⟩
theorem TabL.at {K : PySem.W.Frag} {P : Program} {w : World} {H : Hp} {d : Addr} {N : Nat} {T : Nat → Nat → Option (List Nat)} (t : TabL K P w H d N T) {b a : Nat} {xs : List Nat} (e : T b a = some xs) : ∃ kvs l, DN K P w H d kvs ∧ valV kvs [(b : Int), (a : Int)] = some (.ref l) ∧ H l = some (.lst (vi xs)) := by
  obtain ⟨kvs, h1, h2, h3⟩ := t
  obtain ⟨l, a1, a2, a3⟩ := h3 b a xs e
  exact ⟨kvs, l, h1, a1, a3⟩
theorem TabL.new {K : PySem.W.Frag} {P : Program} {w : World} {H : Hp} {d : Addr} (g : DN K P w H d []) : TabL K P w H d 0 fun _ _ => none := ⟨[], g, Nat.le_refl _, fun _ _ _ h => nomatch h⟩
theorem key2_inj {b a b' a' : Nat} (h : ([(b : Int), (a : Int)] : List Int) = [(b' : Int), (a' : Int)]) : b = b' ∧ a = a' := by
  simp only [List.cons.injEq, and_true] at h
  omega
theorem TabL.put {K : PySem.W.Frag} {P : Program} {w : World} {H : Hp} {d l : Addr} {N : Nat} {T : Nat → Nat → Option (List Nat)} (t : TabL K P w H d N T) {xs : List Nat} (b a : Nat) (hl : H l = some (.lst (vi xs))) (hN : N ≤ 100000) : ∃ kvs, DN K P w H d kvs ∧ kvs.length < sizeLine ∧
    ∀ H', (∀ c, c ≠ d → H' c = H c) → DN K P w H' d (putK kvs [(b : Int), (a : Int)] (.ref l)) → TabL K P w H' d (N + 1) (fun b' a' => if b' = b ∧ a' = a then some xs else T b' a') := by
  obtain ⟨kvs, h1, h2, h3⟩ := t
  have hld : l ≠ d := fun e => by
    obtain ⟨L, g, _⟩ := h1
    rw [e, g] at hl; cases hl
  refine ⟨kvs, h1, sz61 (by omega), fun H' hH g => ⟨_, g, by have := length_putK kvs [(b : Int), (a : Int)] (.ref l); omega, fun b' a' ys e => ?_⟩⟩
  replace e : (if b' = b ∧ a' = a then some xs else T b' a') = some ys := e
  rw [valV_put]
  by_cases z : b' = b ∧ a' = a
  · rw [if_pos z] at e
    cases e
    rw [if_pos (by rw [z.1, z.2])]
    exact ⟨l, rfl, hld, by rw [hH l hld]; exact hl⟩
  · rw [if_neg z] at e
    obtain ⟨m, a1, a2, a3⟩ := h3 b' a' ys e
    rw [if_neg fun q => z (key2_inj q)]
    exact ⟨m, a1, a2, by rw [hH m a2]; exact a3⟩
theorem TabL.list {K : PySem.W.Frag} {P : Program} {w : World} {H : Hp} {d : Addr} {N : Nat} {T : Nat → Nat → Option (List Nat)} (t : TabL K P w H d N T) : ∃ L, H d = some (DXO P w d L) := by
  obtain ⟨kvs, ⟨L, g, _⟩, _⟩ := t
  exact ⟨L, g⟩
section
variable {P : Program} {w : World} {K : PySem.W.Frag} {mg : Str → Option Value} {base : Heap}
def sp_counts_by_size (K : PySem.W.Frag) : Sp := fun vs H Q _ => ∃ (la lb : Addr) (xs ys : List Nat), vs = [.ref la, .ref lb] ∧ H la = some (.lst (vi xs)) ∧ H lb = some (.lst (vi ys)) ∧ xs.length = ys.length ∧ xs.length ≤ 100 ∧ (∀ x, x ∈ xs → x < 2 ^ 4000) ∧ (∀ y, y ∈ ys → y < 2 ^ 4000) ∧ ∀ H' p, Same H H' → H' p = some (.lst (vi (conv xs ys))) → Q (.ref p) H'
theorem ok_counts_by_size (TX : Tx K mg) : FnOk P w K mg base CX0 1 TX.a_counts_by_size TX.fd_counts_by_size ["lefts", "rights"] (sp_counts_by_size K) := by
  refine TX.f_counts_by_size.ok sc_counts_by_size (fun vs H Q E h => ?_) (fun cdv A outer s H vs Q E hr h => ?_)
  · obtain ⟨la, lb, xs, ys, rfl, _⟩ := h; rfl
  · obtain ⟨la, lb, xs, ys, rfl, hxs, hys, hl, hl100, bx, bY, q⟩ := h
    refine ⟨_, (pss_cons (ps_set (i := 2) sc_counts_by_size.nd rfl (.inl rfl) (pe_lst (pa_cons pe_int pa_nil)))
      (pss_cons (ps_for PassesOwn.never rfl (pi_range1 (by rfl) TX.b_range (pa_cons (pe_callB (id := "len") (k_len (K := K) rfl) (by rfl) TX.b_len (by decide +kernel) (pa_cons (pv 0) pa_nil)) pa_nil)) (pg_name (i := 3) sc_counts_by_size.nd rfl (.inl rfl))
        (pss_one (ps_expr (pe_bm PySem.F.plainAttrs_list PySem.F.slot_list_append PySem.F.type_list_append mt_append (pv 2) (pa_cons (pe_callB (id := "sum") (cr_sum rfl) (by rfl) TX.b_sum (by decide +kernel) (pa_cons (pe_lc (own := [("left", 4), ("right", 5)]) (by rfl) sc_counts_by_size.nd (pi_zip (by rfl) TX.b_zip (pa_cons (pv 0) (pa_cons (pe_revF (K := K) rfl (pv 1) (pv 3)) pa_nil))) (blkOk_by (own := [("left", 4), ("right", 5)]) (N := N_counts_by_size) (sc := defScope s_counts_by_size) (by decide +kernel)) (fun _ _ _ _ _ => (k_pgT2 (K := K) rfl rfl (pg_name (i := 4) sc_counts_by_size.nd rfl (Or.inl rfl)) (pg_name (i := 5) sc_counts_by_size.nd rfl (Or.inl rfl)))) (fun _ _ _ _ _ => pts_nil) (fun _ _ _ _ _ => (pe_op op_mulW (pv 4) (pv 5)))) pa_nil)) pa_nil)))))
      (pss_one (ps_ret (pv 2))))), ?_⟩
    refine ⟨sz60 (by simp), fun C nC => ?_⟩
    have s0 := same_upd (o := .lst [V.int 1]) nC
    have hC0 := upd_same (H := H) (a := C) (o := .lst [V.int 1])
    generalize upd H C (.lst [V.int 1]) = H0 at s0 hC0 ⊢
    refine ⟨.ref la, rfl, la, _, rfl, .inl (.inl (.inl (s0 _ _ hxs))), _, rfl, by rw [vi_len]; omega, by rw [vi_len]; omega, ?_⟩
    refine for_range (lo := 0) (n := ((vi xs).length : Int).toNat) (fun t σ G => ∃ y3 y4 y5, σ = [some (.ref la), some (.ref lb), some (.ref C), y3, y4, y5] ∧ Same H G ∧ G C = some (.lst (vi ((conv xs ys).take (t + 1))))) ⟨_, _, _, rfl, s0, hC0⟩ ?_ ?_
    · rintro t σ G ht ⟨y3, y4, y5, rfl, s1, hC⟩
      have ht' : t < xs.length := by rw [vi_len] at ht; omega
      have et : (0 : Int) + (t : Nat) = (t : Int) := by omega
      rw [et]
      have hyG := s1 _ _ hys
      have hxG := s1 _ _ hxs
      refine ⟨.ref C, rfl, .inl ⟨rfl, _, .inl (.inl hC)⟩, .ref la, rfl, .ref lb, rfl, _, rfl, _, rfl, lb, vi ys, t, rfl, rfl, .inl (.inl hyG), by rw [vi_len]; omega, fun R nR => ?_⟩
      have s2 := same_upd (o := .lst ((vi ys).take (t + 1)).reverse) nR
      have hR := upd_same (H := G) (a := R) (o := .lst ((vi ys).take (t + 1)).reverse)
      have er : ((vi ys).take (t + 1)).reverse = vi ((ys.take (t + 1)).reverse) := by
        unfold vi
        rw [← List.map_take, ← List.map_reverse]
      rw [er] at s2 hR ⊢
      generalize upd G R (.lst (vi ((ys.take (t + 1)).reverse))) = G2 at s2 hR ⊢
      have hxG2 := s2 _ _ hxG
      refine ⟨la, R, _, _, rfl, .inl (.inl hxG2), .inl (.inl hR), fun D nD => ?_⟩
      have hmin : min (vi xs).length (vi ((ys.take (t + 1)).reverse)).length = t + 1 := by
        rw [vi_len, vi_len, List.length_reverse, List.length_take]; omega
      refine lc_ints (K := K) (walk_zip (xs := vi xs) (ys := vi ((ys.take (t + 1)).reverse)) rfl) (ci ((List.range (t + 1)).map fun i => xs.getD i 0 * ys.getD (t - i) 0)) (by rw [hmin]; simp [ci]) (by rw [hmin]; omega) nD (fun H' s' => ⟨.inl (.inl (s' _ _ hxG2)), .inl (.inl (s' _ _ hR))⟩) ?_ ?_ mono_pair (fun σ' H' Q Q' h => h _ _)
      · rintro i x H6 H6' hi s6 ⟨T, x1, x2, rfl, nT, rfl, e1, e2⟩ z hz Rq hRq
        rw [hmin] at hi
        have g1 : xs[i]? = some (xs.getD i 0) := by rw [List.getD_eq_getElem?_getD, List.getElem?_eq_getElem (show i < xs.length by omega)]; rfl
        have g2 : ((ys.take (t + 1)).reverse)[i]? = some (ys.getD (t - i) 0) := by
          have hl2 : (ys.take (t + 1)).length = t + 1 := by rw [List.length_take]; omega
          rw [List.getElem?_reverse (by omega), hl2, List.getElem?_take, if_pos (by omega), show t + 1 - 1 - i = t - i by omega, List.getD_eq_getElem?_getD, List.getElem?_eq_getElem (show t - i < ys.length by omega)]
          rfl
        dsimp only at e1 e2
        rw [vi_get g1] at e1
        rw [vi_get g2] at e2
        cases e1
        cases e2
        rw [ci, List.getElem?_map, List.getElem?_map, List.getElem?_range hi] at hz
        cases hz
        have h1 := bx _ (List.mem_of_getElem? g1)
        have h2 : ys.getD (t - i) 0 < 2 ^ 4000 := bY _ (by
          rw [List.getD_eq_getElem?_getD, List.getElem?_eq_getElem (show t - i < ys.length by omega)]
          exact List.getElem_mem _)
        have sT := same_upd (o := .tup [V.int ((xs.getD i 0 : Nat) : Int), V.int ((ys.getD (t - i) 0 : Nat) : Int)]) nT
        refine ⟨T, _, rfl, .inl (.inl upd_same), rfl, _, _, rfl, _, _, rfl, rfl, rfl, rfl, _, rfl, _, rfl, _, _, rfl, rfl, wide_mul (a := 4000) (b := 4000) (by rw [Int.natAbs_natCast]; exact h1) (by rw [Int.natAbs_natCast]; exact h2) (by decide) (by decide) (by decide), ?_⟩
        have := hRq _ sT
        exact this
      · intro G3 s3 hD
        refine ⟨D, _, rfl, .inl (.inl hD), ?_⟩
        have hC3 := s3 _ _ (s2 _ _ hC)
        have hlen : ((conv xs ys).take (t + 1)).length ≤ t + 1 := by rw [List.length_take]; omega
        refine ⟨C, _, _, rfl, rfl, hC3, sz61 (by rw [vi_len]; omega), ?_⟩
        refine ⟨_, _, _, rfl, Same.mut (s1.trans (s2.trans s3)) nC, ?_⟩
        rw [upd_same, ci_sum]
        have e : (conv xs ys).take (t + 1 + 1) = (conv xs ys).take (t + 1) ++ [((List.range (t + 1)).map fun i => xs.getD i 0 * ys.getD (t - i) 0).sum] := by
          rw [List.take_add_one (i := t + 1)]
          congr 1
          unfold conv
          rw [List.getElem?_cons_succ, List.getElem?_map, List.getElem?_range ht']
          rfl
        rw [e, vi_app]; rfl
    · rintro σ G ⟨y3, y4, y5, rfl, s1, hC⟩
      rw [vi_len] at hC
      have e : (conv xs ys).take (((xs.length : Nat) : Int).toNat + 1) = conv xs ys := List.take_of_length_le (by unfold conv; simp)
      rw [e] at hC
      exact ⟨.ref C, rfl, q G C s1 hC⟩
/-- the table of counts within (k, c) for n flushes -/
def cwT (n k c : Nat) : Nat → Nat → Option (List Nat) := fun b a => if k ≤ b + n ∧ b ≤ k ∧ c ≤ a + n ∧ a ≤ c ∧ (k - b) + (c - a) ≤ n then some (cwL b a (n - (k - b) - (c - a))) else none
def sp_counts_within (K : PySem.W.Frag) (P : Program) (w : World) : Sp := fun vs H Q _ => ∃ n k c : Nat, vs = [.int (n : Int), .int (k : Int), .int (c : Int)] ∧ n ≤ 60 ∧ k ≤ 60 ∧ c ≤ 60 ∧ ∀ H' p, Same H H' → TabL K P w H' p 4000 (cwT n k c) → Q (.ref p) H'
theorem ok_counts_within (TX : Tx K mg) : FnOk P w K mg base CX0 2 TX.a_counts_within TX.fd_counts_within ["n", "k", "c"] (sp_counts_within K P w) := by
  refine TX.f_counts_within.ok sc_counts_within (fun vs H Q E h => ?_) (fun cdv A outer s H vs Q E hr h => ?_)
  · obtain ⟨n, k, c, rfl, _⟩ := h; rfl
  · obtain ⟨n, k, c, rfl, hn, hk, hc, q⟩ := h
    refine ⟨_, (pss_cons (ps_set (i := 3) sc_counts_within.nd rfl (.inl rfl) (pe_nnew (K := K) (P := P) (w := w) rfl rfl rfl))
      (pss_cons (ps_for PassesOwn.never rfl (pi_range2 (by rfl) TX.b_range (pa_cons (pe_callB (id := "max") (call_max2 rfl) (by rfl) TX.b_max (by decide +kernel) (pa_cons pe_int (pa_cons (pe_op op_sub (pv 1) (pv 0)) pa_nil))) (pa_cons (pe_op op_add (pv 1) pe_int) pa_nil))) (pg_name (i := 4) sc_counts_within.nd rfl (.inl rfl))
        (pss_one (ps_for PassesOwn.never rfl (pi_range2 (by rfl) TX.b_range (pa_cons (pe_callB (id := "max") (call_max2 rfl) (by rfl) TX.b_max (by decide +kernel) (pa_cons pe_int (pa_cons (pe_op op_sub (pv 2) (pv 0)) pa_nil))) (pa_cons (pe_op op_add (pv 2) pe_int) pa_nil))) (pg_name (i := 5) sc_counts_within.nd rfl (.inl rfl))
          (pss_cons (ps_set (i := 6) sc_counts_within.nd rfl (.inl rfl) (pe_op op_sub (pe_op op_sub (pv 0) (pe_op op_sub (pv 1) (pv 4))) (pe_op op_sub (pv 2) (pv 5))))
          (pss_cons (ps_if (pt_cmpR op_lt (pv 6) pe_int (nomark _))
            (pss_one ps_continue)
            pss_nil)
          (pss_one (ps_if (PW.pt (pw_or (pt_cmpR op_eq (pv 6) pe_int (nomark _)) (pw_or (pt_cmpR op_eq (pv 4) pe_int (nomark _)) (pw_or1 (pt_cmpR op_eq (pv 5) pe_int (nomark _))))))
            (pss_one (ps_nput (K := K) (P := P) (w := w) rfl rfl rfl (hu_of hr) (pv 3) (pe_tup (pa_cons (pv 4) (pa_cons (pv 5) pa_nil))) (pe_op op_cat (pe_lst (pa_cons pe_int pa_nil)) (pe_op op_rep (pe_lst (pa_cons pe_int pa_nil)) (pv 6))) (by rfl)))
            (pss_one (ps_nput (K := K) (P := P) (w := w) rfl rfl rfl (hu_of hr) (pv 3) (pe_tup (pa_cons (pv 4) (pa_cons (pv 5) pa_nil))) (pe_call (ok_counts_by_size TX) (hr.mono (by decide)) (by rfl) TX.g_counts_by_size TX.f_counts_by_size.kp TX.bd_counts_by_size .nil pass0 (pa_cons (pe_nget (K := K) (P := P) (w := w) rfl rfl rfl (hu_of hr) (pv 3) (pe_tup (pa_cons (pv 4) (pa_cons (pe_op op_sub (pv 5) pe_int) pa_nil))) (fun _ _ => rfl)) (pa_cons (pe_nget (K := K) (P := P) (w := w) rfl rfl rfl (hu_of hr) (pv 3) (pe_tup (pa_cons (pe_op op_sub (pv 4) pe_int) (pa_cons (pv 5) pa_nil))) (fun _ _ => rfl)) pa_nil))) (by rfl))))))))))
      (pss_one (ps_ret (pv 3))))), ?_⟩
    refine fun d H0 nd s0 hd => ?_
    have emax : ∀ x y : Nat, (if ((x : Int) - (y : Int)) > 0 then ((x : Int) - (y : Int)) else 0) = ((x - y : Nat) : Int) := fun x y => by split <;> omega
    refine ⟨_, rfl, _, rfl, _, _, rfl, rfl, _, _, rfl, _, rfl, _, _, rfl, rfl, _, _, rfl, ?_, ?_⟩
    · rw [emax]; exact ⟨by omega, by omega, by omega, by omega⟩
    rw [emax]
    refine for_range (lo := ((k - n : Nat) : Int)) (n := ((k : Int) + 1 - ((k - n : Nat) : Int)).toNat) (fun i σ G => ∃ y4 y5 y6, σ = [some (.int (n : Int)), some (.int (k : Int)), some (.int (c : Int)), some (.ref d), y4, y5, y6] ∧ Same H G ∧ TabL K P w G d (61 * i) (fun b a => if b < k - n + i then cwT n k c b a else none)) ⟨_, _, _, rfl, s0, (TabL.new hd).extN fun b a xs e => by
      by_cases h : b < k - n + 0
      · rw [if_pos h] at e
        unfold cwT at e
        rw [if_neg (by omega)] at e; cases e
      · rw [if_neg h] at e; cases e⟩ ?_ ?_
    rotate_left
    · rintro σ G ⟨y4, y5, y6, rfl, s1, t1⟩
      refine ⟨.ref d, rfl, q G d s1 ?_⟩
      obtain ⟨kvs, g1, g2, g3⟩ := t1
      refine ⟨kvs, g1, by omega, fun b a xs e => g3 b a xs ?_⟩
      dsimp only
      have hb : b ≤ k := by
        unfold cwT at e
        by_cases h : k ≤ b + n ∧ b ≤ k ∧ c ≤ a + n ∧ a ≤ c ∧ (k - b) + (c - a) ≤ n
        · exact h.2.1
        · rw [if_neg h] at e; cases e
      rw [if_pos (by omega)]; exact e
    rintro i σ G hi ⟨y4, y5, y6, rfl, s1, t1⟩
    obtain ⟨b, hb⟩ : ∃ b, b = k - n + i := ⟨_, rfl⟩
    have hbk : b ≤ k := by omega
    have eb : ((k - n : Nat) : Int) + (i : Nat) = (b : Int) := by omega
    rw [eb]
    refine ⟨_, rfl, _, rfl, _, _, rfl, rfl, _, _, rfl, _, rfl, _, _, rfl, rfl, _, _, rfl, ?_, ?_⟩
    · rw [emax]; exact ⟨by omega, by omega, by omega, by omega⟩
    rw [emax]
    refine for_range (lo := ((c - n : Nat) : Int)) (n := ((c : Int) + 1 - ((c - n : Nat) : Int)).toNat) (fun j σ G => ∃ y5 y6, σ = [some (.int (n : Int)), some (.int (k : Int)), some (.int (c : Int)), some (.ref d), some (.int (b : Int)), y5, y6] ∧ Same H G ∧ TabL K P w G d (61 * i + j) (fun b' a => if b' < b ∨ (b' = b ∧ a < c - n + j) then cwT n k c b' a else none)) ⟨_, _, rfl, s1, t1.extN fun b' a xs e => by
      by_cases h : b' < b ∨ (b' = b ∧ a < c - n + 0)
      · rw [if_pos h] at e
        rcases h with h | ⟨h, h2⟩
        · rw [if_pos (by omega)]; exact e
        · unfold cwT at e
          rw [if_neg (by omega)] at e; cases e
      · rw [if_neg h] at e; cases e⟩ ?_ ?_
    rotate_left
    · rintro σ G2 ⟨y5, y6, rfl, s2, t2⟩
      refine ⟨_, _, _, rfl, s2, ?_⟩
      obtain ⟨kvs, g1, g2, g3⟩ := t2
      refine ⟨kvs, g1, by omega, fun b' a xs e => g3 b' a xs ?_⟩
      dsimp only at e ⊢
      by_cases h : b' < k - n + (i + 1)
      · rw [if_pos h] at e
        have ha : a ≤ c := by
          unfold cwT at e
          by_cases h : k ≤ b' + n ∧ b' ≤ k ∧ c ≤ a + n ∧ a ≤ c ∧ (k - b') + (c - a) ≤ n
          · exact h.2.2.2.1
          · rw [if_neg h] at e; cases e
        rw [if_pos (by omega)]; exact e
      · rw [if_neg h] at e; cases e
    rintro j σ G2 hj ⟨y5, y6, rfl, s2, t2⟩
    obtain ⟨a, ha⟩ : ∃ a, a = c - n + j := ⟨_, rfl⟩
    have hac : a ≤ c := by omega
    have ea : ((c - n : Nat) : Int) + (j : Nat) = (a : Int) := by omega
    rw [ea]
    have same' : ∀ {G3 G4 : Hp}, Same H G3 → (∀ u, u ≠ d → G4 u = G3 u) → Same H G4 := fun s h u o e => by
      have hu : u ≠ d := fun z => by rw [z, nd] at e; cases e
      rw [h u hu]; exact s _ _ e
    refine ⟨_, rfl, _, rfl, _, rfl, _, _, rfl, rfl, _, _, rfl, rfl, _, rfl, _, rfl, _, _, rfl, rfl, _, _, rfl, rfl, _, rfl, _, _, rfl, rfl, _, rfl, ?_⟩
    by_cases hm : (k - b) + (c - a) ≤ n
    · refine decF (by omega) ?_
      obtain ⟨m, em⟩ : ∃ m, m = n - (k - b) - (c - a) := ⟨_, rfl⟩
      have eM : (n : Int) - ((k : Int) - (b : Int)) - ((c : Int) - (a : Int)) = (m : Int) := by omega
      have hT : cwT n k c b a = some (cwL b a m) := by
        unfold cwT
        rw [if_pos (by omega), em]
      have fin : ∀ {G3 : Hp} {l : Addr} {y6 : Option V}, Same G2 G3 → G3 l = some (.lst (vi (cwL b a m))) → ∃ kvs, DN K P w G3 d kvs ∧ kvs.length < sizeLine ∧ DNput K P w G3 d kvs [(b : Int), (a : Int)] (.ref l) fun G4 => ∃ y5 y6', [some (V.int (n : Int)), some (.int (k : Int)), some (.int (c : Int)), some (.ref d), some (.int (b : Int)), some (.int (a : Int)), y6] = [some (.int (n : Int)), some (.int (k : Int)), some (.int (c : Int)), some (.ref d), some (.int (b : Int)), y5, y6'] ∧ Same H G4 ∧ TabL K P w G4 d (61 * i + (j + 1)) (fun b' a => if b' < b ∨ (b' = b ∧ a < c - n + (j + 1)) then cwT n k c b' a else none) := fun {G3 l y6} s3 hl => by
        obtain ⟨kvs, h1, h2, h3⟩ := (t2.same s3).put b a hl (by omega)
        refine ⟨kvs, h1, h2, fun G4 k1 _ k3 => ⟨_, _, rfl, same' (s2.trans s3) k1, (h3 G4 k1 k3).extN fun b' a' xs e => ?_⟩⟩
        by_cases h : b' = b ∧ a' = a
        · rw [if_pos h]
          rw [if_pos (by omega), h.1, h.2, hT] at e
          exact e
        · rw [if_neg h]
          by_cases h2 : b' < b ∨ (b' = b ∧ a' < c - n + (j + 1))
          · rw [if_pos h2] at e
            rw [if_pos (by omega)]; exact e
          · rw [if_neg h2] at e; cases e
      dsimp only
      rw [eM]
      have tor : ∀ Qb : Bool → Hp → Prop, Qb (decide (m = 0 ∨ b = 0 ∨ a = 0)) G2 → tOr (tTest (tOp rEq (tVar 6) (tC (V.int 0)))) (tOr (tTest (tOp rEq (tVar 4) (tC (V.int 0)))) (tTest (tOp rEq (tVar 5) (tC (V.int 0))))) (([some (V.int (n : Int)), some (V.int (k : Int)), some (V.int (c : Int)), some (V.ref d), some (V.int (b : Int)), y5, y6].set 5 (some (V.int (a : Int)))).set 6 (some (V.int (m : Int)))) G2 Qb := fun Qb hq => by
        refine ⟨_, rfl, rfl, _, rfl, ?_⟩
        by_cases h1 : m = 0
        · refine decT (by rw [h1]; rfl) ?_
          rw [decide_eq_true (.inl h1)] at hq; exact hq
        refine decF (int_ne (by omega)) ⟨_, rfl, rfl, _, rfl, ?_⟩
        by_cases h2 : b = 0
        · refine decT (by rw [h2]; rfl) ?_
          rw [decide_eq_true (.inr (.inl h2))] at hq; exact hq
        refine decF (int_ne (by omega)) ⟨_, rfl, rfl, _, rfl, ?_⟩
        by_cases h3 : a = 0
        · rw [decide_eq_true (.inr (.inr h3))] at hq
          rw [decide_eq_true (by rw [h3]; rfl)]; exact hq
        · rw [decide_eq_false (by omega)] at hq
          rw [decide_eq_false (int_ne (by omega))]; exact hq
      refine tor _ ?_
      have hdk := fun {G3 : Hp} (s3 : Same G2 G3) => (t2.same s3)
      by_cases he : m = 0 ∨ b = 0 ∨ a = 0
      · refine decT he ?_
        refine ⟨sz60 (by simp), fun l1 n1 => ⟨sz60 (by simp), fun l2 n2 => ⟨_, rfl, l2, _, _, rfl, rfl, upd_same, by omega, by omega, sz60 (by simp; omega), fun l3 n3 => ⟨l1, l3, [V.int 1], _, rfl, rfl, ?_, upd_same, sz60 (by rw [List.flatten_replicate_singleton]; simp; omega), fun l4 n4 => ?_⟩⟩⟩⟩
        · exact same_upd n3 _ _ (same_upd n2 _ _ upd_same)
        have z4 := ((same_upd n1 (o := .lst [V.int 1])).trans (same_upd n2 (o := .lst [V.int 0]))).trans ((same_upd n3).trans (same_upd n4 (o := .lst ([V.int 1] ++ (List.replicate ((m : Nat) : Int).toNat [V.int 0]).flatten))))
        have hl4 := upd_same (H := upd (upd (upd G2 l1 (.lst [V.int 1])) l2 (.lst [V.int 0])) l3 (.lst (List.replicate ((m : Nat) : Int).toNat [V.int 0]).flatten)) (a := l4) (o := .lst ([V.int 1] ++ (List.replicate ((m : Nat) : Int).toNat [V.int 0]).flatten))
        generalize upd (upd (upd (upd G2 l1 _) l2 _) l3 _) l4 _ = G3 at z4 hl4 ⊢
        have el : [V.int 1] ++ (List.replicate ((m : Nat) : Int).toNat [V.int 0]).flatten = vi (cwL b a m) := by
          rw [cwL_edge he, Int.toNat_natCast, List.flatten_replicate_singleton]
          show V.int 1 :: List.replicate m (V.int 0) = vi (1 :: List.replicate m 0)
          have := vi_rep m 0
          show _ = V.int 1 :: vi (List.replicate m 0)
          rw [this]; rfl
        rw [el] at hl4
        refine ⟨.ref d, rfl, _, rfl, _, rfl, sz60 (by simp), fun t nt => ?_⟩
        have z5 := same_upd (o := .tup [V.int (b : Int), V.int (a : Int)]) nt
        obtain ⟨kvs, h1, h2, h3⟩ := fin (y6 := some (V.int (m : Int))) (z4.trans z5) (z5 _ _ hl4)
        exact ⟨d, t, kvs, [(b : Int), (a : Int)], rfl, rfl, h1, .inl (.inl upd_same), h2, h3⟩
      · refine decF he ?_
        obtain ⟨b', rfl⟩ : ∃ b', b = b' + 1 := ⟨b - 1, by omega⟩
        obtain ⟨a', rfl⟩ : ∃ a', a = a' + 1 := ⟨a - 1, by omega⟩
        obtain ⟨m', rfl⟩ : ∃ m', m = m' + 1 := ⟨m - 1, by omega⟩
        have hT1 : (if b' + 1 < b' + 1 ∨ (b' + 1 = b' + 1 ∧ a' < c - n + j) then cwT n k c (b' + 1) a' else none) = some (cwL (b' + 1) a' m') := by
          rw [if_pos (by omega)]
          unfold cwT
          rw [if_pos (by omega)]
          congr 2; omega
        have hT2 : (if b' < b' + 1 ∨ (b' = b' + 1 ∧ a' + 1 < c - n + j) then cwT n k c b' (a' + 1) else none) = some (cwL b' (a' + 1) m') := by
          rw [if_pos (by omega)]
          unfold cwT
          rw [if_pos (by omega)]
          congr 2; omega
        have ea1 : ((a' + 1 : Nat) : Int) - 1 = (a' : Int) := by omega
        have eb1 : ((b' + 1 : Nat) : Int) - 1 = (b' : Int) := by omega
        refine ⟨.ref d, rfl, _, rfl, _, rfl, _, _, rfl, rfl, sz60 (by simp), fun t1 n1 => ?_⟩
        have z1 := same_upd (o := .tup [V.int ((b' + 1 : Nat) : Int), V.int (((a' + 1 : Nat) : Int) - 1)]) n1
        obtain ⟨kvs1, l1, g1, g2, g3⟩ := (t2.same z1).at hT1
        refine ⟨d, t1, kvs1, [((b' + 1 : Nat) : Int), (a' : Int)], .ref l1, rfl, rfl, g1, by rw [← ea1]; exact .inl (.inl upd_same), g2, ?_⟩
        generalize upd G2 t1 _ = G3 at z1 g1 g3 ⊢
        refine ⟨.ref d, rfl, _, rfl, _, _, rfl, rfl, _, rfl, sz60 (by simp), fun t3 n3 => ?_⟩
        have z3 := same_upd (o := .tup [V.int (((b' + 1 : Nat) : Int) - 1), V.int ((a' + 1 : Nat) : Int)]) n3
        obtain ⟨kvs2, l2, f1, f2, f3⟩ := (t2.same (z1.trans z3)).at hT2
        refine ⟨d, t3, kvs2, [(b' : Int), ((a' + 1 : Nat) : Int)], .ref l2, rfl, rfl, f1, by rw [← eb1]; exact .inl (.inl upd_same), f2, ?_⟩
        generalize upd G3 t3 _ = G4 at z3 f1 f3 ⊢
        have bnd : ∀ b a m : Nat, m ≤ 60 → ∀ x, x ∈ cwL b a m → x < 2 ^ 4000 := fun b a m hm x hx => by
          obtain ⟨s, hs, rfl⟩ := List.mem_map.mp hx
          have := List.mem_range.mp hs
          exact nB_lt (by omega)
        refine ⟨l1, l2, cwL (b' + 1) a' m', cwL b' (a' + 1) m', rfl, z3 _ _ g3, f3, by rw [cwL_len, cwL_len], by rw [cwL_len]; omega, bnd _ _ _ (by omega), bnd _ _ _ (by omega), fun G5 l5 s5 hl5 => ?_⟩
        rw [cwL_conv] at hl5
        refine ⟨.ref d, rfl, _, rfl, _, rfl, sz60 (by simp), fun t nt => ?_⟩
        have z5 := same_upd (o := .tup [V.int ((b' + 1 : Nat) : Int), V.int ((a' + 1 : Nat) : Int)]) nt
        obtain ⟨kvs, h1, h2, h3⟩ := fin (y6 := some (V.int ((m' + 1 : Nat) : Int))) ((z1.trans z3).trans (s5.trans z5)) (z5 _ _ hl5)
        exact ⟨d, t, kvs, [((b' + 1 : Nat) : Int), ((a' + 1 : Nat) : Int)], rfl, rfl, h1, .inl (.inl upd_same), h2, h3⟩
    · refine decT (by omega) ?_
      refine ⟨_, _, rfl, s2, ?_⟩
      obtain ⟨kvs, g1, g2, g3⟩ := t2
      refine ⟨kvs, g1, by omega, fun b' a' xs e => g3 b' a' xs ?_⟩
      dsimp only at e ⊢
      by_cases h : b' < b ∨ (b' = b ∧ a' < c - n + (j + 1))
      · rw [if_pos h] at e
        by_cases h2 : b' = b ∧ a' = a
        · unfold cwT at e
          rw [if_neg (by omega)] at e; cases e
        · rw [if_pos (by omega)]; exact e
      · rw [if_neg h] at e; cases e
end
section
variable {P : Program} {w : World} {K : PySem.W.Frag} {mg : Str → Option Value} {base : Heap}
def sp_count_within (K : PySem.W.Frag) : Sp := fun vs H Q _ => ∃ n k c : Nat, vs = [.int (n : Int), .int (k : Int), .int (c : Int)] ∧ n ≤ 60 ∧ k ≤ 60 ∧ c ≤ 60 ∧ ∀ H', Same H H' → Q (.int (nB k c n : Int)) H'
theorem ok_count_within (TX : Tx K mg) : FnOk P w K mg base CX0 5 TX.a_count_within TX.fd_count_within ["n", "k", "c"] (sp_count_within K) := by
  refine TX.f_count_within.ok sc_count_within (fun vs H Q E h => ?_) (fun cdv A outer s H vs Q E hr h => ?_)
  · obtain ⟨n, k, c, rfl, _⟩ := h; rfl
  · obtain ⟨n, k, c, rfl, hn, hk, hc, q⟩ := h
    refine ⟨_, (pss_cons (ps_expr (pe_call (ok_check_flushes TX) (hr.mono (by decide)) (by rfl) TX.g_check_flushes TX.f_check_flushes.kp TX.bd_check_flushes .nil pass0 (pa_cons (pv 0) pa_nil)))
      (pss_cons (ps_expr (pe_call (ok_check_budgets TX) (hr.mono (by decide)) (by rfl) TX.g_check_budgets TX.f_check_budgets.kp TX.bd_check_budgets .nil pass0 (pa_cons (pv 1) (pa_cons (pv 2) (pa_cons (pe_glob (v := .int (60)) (by rfl) TX.c_MOST_BUDGET ⟨_, rfl⟩) pa_nil)))))
      (pss_one (ps_ret (pe_ix (k_ixL (K := K) rfl) (pe_nget (K := K) (P := P) (w := w) rfl rfl rfl (hu_of hr) (pe_call (ok_counts_within TX) (hr.mono (by decide)) (by rfl) TX.g_counts_within TX.f_counts_within.kp TX.bd_counts_within .nil pass0 (pa_cons (pv 0) (pa_cons (pv 1) (pa_cons (pv 2) pa_nil)))) (pe_tup (pa_cons (pv 1) (pa_cons (pv 2) pa_nil))) (fun _ _ => rfl)) (pv 0) (fun _ _ => rfl)))))), ?_⟩
    have hT : cwT n k c k c = some (cwL k c n) := by
      unfold cwT
      rw [if_pos (by omega)]
      congr 2; omega
    refine ⟨_, rfl, n, rfl, hn, _, rfl, _, rfl, _, _, _, rfl, by omega, by omega, by omega, by omega, fun H1 s1 => ?_⟩
    refine ⟨_, rfl, _, rfl, _, rfl, n, k, c, rfl, hn, hk, hc, fun H2 d s2 t2 => ⟨_, rfl, _, rfl, sz60 (by simp), fun t nt => ?_⟩⟩
    have z3 := same_upd (o := .tup [V.int (k : Int), V.int (c : Int)]) nt
    obtain ⟨kvs, l, g1, g2, g3⟩ := (t2.same z3).at hT
    refine ⟨d, t, kvs, [(k : Int), (c : Int)], .ref l, rfl, rfl, g1, .inl (.inl upd_same), g2, _, rfl, ?_⟩
    exact ⟨l, _, _, _, rfl, rfl, .inl (.inl g3), at_vi (cwL_get (Nat.le_refl n)), q _ (s1.trans (s2.trans z3))⟩
end
def dPr (p : Nat × Nat) : PyData := .tuple [.int (p.1 : Int), .int (p.2 : Int)]
def dStk (l : List (Nat × Nat)) : PyData := .tuple (l.map dPr)
theorem tf_pr (p : Nat × Nat) : Tf (dPr p) := .tup fun d h => by
  rcases List.mem_cons.mp h with rfl | h
  · exact .int _
  · rcases List.mem_cons.mp h with rfl | h
    · exact .int _
    · cases h
theorem tf_stk (l : List (Nat × Nat)) : Tf (dStk l) := .tup fun d h => by
  obtain ⟨p, _, rfl⟩ := List.mem_map.mp h
  exact tf_pr p
section
variable {P : Program} {w : World} {K : PySem.W.Frag} {mg : Str → Option Value} {base : Heap}
end
section
variable {P : Program} {w : World} {K : PySem.W.Frag} {mg : Str → Option Value} {base : Heap}
end
/-- the draws' list: a number not below 0, a seed, a count of at most n -/
def Pot (H : Hp) (a : Addr) (n : Int) : Prop := ∃ d s m : Int, H a = some (.lst [.int d, .int s, .int m]) ∧ 0 ≤ d ∧ 0 ≤ s ∧ s < 2 ^ 61 ∧ 0 ≤ m ∧ m ≤ n
theorem Pot.mono {H : Hp} {a : Addr} {n k : Int} (h : Pot H a n) (e : n ≤ k) : Pot H a k := by
  obtain ⟨d, s, m, h1, h2, h3, h4, h5, h6⟩ := h
  exact ⟨d, s, m, h1, h2, h3, h4, h5, by omega⟩
theorem Pot.same {H H' : Hp} {a : Addr} {n : Int} (h : Pot H a n) (e : Same H H') : Pot H' a n := by
  obtain ⟨d, s, m, h1, r⟩ := h
  exact ⟨d, s, m, e _ _ h1, r⟩
theorem Pot.keep {K : PySem.W.Frag} {H H' : Hp} {a : Addr} {n : Int} (h : Pot H a n) (e : But a H H') : Keep K H H' := by
  obtain ⟨d, s, m, h1, r⟩ := h
  exact But.keep e h1
theorem Pot.ne {H : Hp} {a b : Addr} {n : Int} (h : Pot H a n) (e : H b = none) : b ≠ a := fun z => by
  obtain ⟨d, s, m, h1, r⟩ := h
  rw [z, h1] at e; cases e
theorem But.free {a l : Addr} {H H' : Hp} (b : But a H H') (h : H' l = none) (n : l ≠ a) : H l = none := by
  cases e : H l with
  | none => rfl
  | some o => rw [b _ _ n e] at h; cases h
theorem But.mut {a l : Addr} {H H' : Hp} {o : HO} (b : But a H H') (h : H l = none) : But a H (L2.upd H' l o) := fun c u n e => by
  rw [upd_ne (ne_of_none e h)]; exact b _ _ n e
theorem Pot.upd {H : Hp} {a l : Addr} {n : Int} {o : HO} (h : Pot H a n) (e : l ≠ a) : Pot (L2.upd H l o) a n := by
  obtain ⟨d, s, m, h1, r⟩ := h
  exact ⟨d, s, m, by rw [upd_ne e.symm]; exact h1, r⟩
theorem na_lt {x : Int} {n : Nat} (h0 : 0 ≤ x) (h1 : x < ((2 ^ n : Nat) : Int)) : x.natAbs < 2 ^ n := by omega
theorem bit01 (b : Bool) : (if b = true then (1 : Int) else 0).natAbs < 2 ^ 2 ∧ (0 : Int) ≤ (if b = true then (1 : Int) else 0) := by cases b <;> exact ⟨by decide, by decide⟩
set_option exponentiation.threshold 2000
section
variable {P : Program} {w : World} {K : PySem.W.Frag} {mg : Str → Option Value} {base : Heap}
end
def dRun (p : Nat × Nat) : PyData := .list ((ci (seg p.1 p.2)).map PyData.int)
def dPil (l : List (Nat × Nat)) : PyData := .list (l.map dRun)
def dPils (t : T) : List PyData := (List.range t.size).map fun i => dPil ((pre t (i + 1)).stk 0)
theorem dPils_len (t : T) : (dPils t).length = t.size := by simp [dPils]
theorem dPils_at {t : T} {i : Nat} (h : i < t.size) : (dPils t)[i]? = some (dPil ((pre t (i + 1)).stk 0)) := by simp [dPils, h]
theorem dPils_take {t : T} {i : Nat} (h : i < t.size) : (dPils t).take (i + 1) = (dPils t).take i ++ [dPil ((pre t (i + 1)).stk 0)] := by
  rw [List.take_add_one, dPils_at h]; rfl
theorem Same.put {G H : Hp} {r : Addr} {o : HO} (s : Same G H) (h : H r = some o) : Same (L2.upd G r o) H := fun b u e => by
  by_cases z : b = r
  · rw [z, upd_same] at e; cases e; rw [z]; exact h
  · rw [upd_ne z] at e; exact s _ _ e
/-- runs as lists, at their places -/
inductive RunsAt (G : Hp) : List V → List (Nat × Nat) → Prop
  | nil : RunsAt G [] []
  | cons {r : Addr} {p : Nat × Nat} {vs : List V} {l : List (Nat × Nat)} : G r = some (.lst (vi (seg p.1 p.2))) → RunsAt G vs l → RunsAt G (.ref r :: vs) (p :: l)
theorem RunsAt.len {G : Hp} : ∀ {vs : List V} {l : List (Nat × Nat)}, RunsAt G vs l → vs.length = l.length
  | _, _, .nil => rfl
  | _, _, .cons _ b => by simp [RunsAt.len b]
theorem RunsAt.snoc {G : Hp} : ∀ {vs : List V} {l : List (Nat × Nat)} {p : Nat × Nat}, RunsAt G vs (l ++ [p]) → ∃ us r, vs = us ++ [.ref r] ∧ RunsAt G us l ∧ G r = some (.lst (vi (seg p.1 p.2)))
  | _, [], _, .cons a .nil => ⟨[], _, rfl, .nil, a⟩
  | _, _ :: l, _, .cons a b => by
    obtain ⟨us, r, e, h1, h2⟩ := RunsAt.snoc b
    exact ⟨_ :: us, r, by rw [e]; rfl, .cons a h1, h2⟩
theorem RunsAt.add {G : Hp} {r : Addr} {p : Nat × Nat} (h : G r = some (.lst (vi (seg p.1 p.2)))) : ∀ {vs : List V} {l : List (Nat × Nat)}, RunsAt G vs l → RunsAt G (vs ++ [.ref r]) (l ++ [p])
  | _, _, .nil => .cons h .nil
  | _, _, .cons a b => .cons a (RunsAt.add h b)
theorem RunsAt.same {G G' : Hp} (s : Same G G') : ∀ {vs : List V} {l : List (Nat × Nat)}, RunsAt G vs l → RunsAt G' vs l
  | _, _, .nil => .nil
  | _, _, .cons a b => .cons (s _ _ a) (RunsAt.same s b)
theorem RunsAt.dp {K : PySem.W.Frag} {G : Hp} : ∀ {vs : List V} {l : List (Nat × Nat)}, RunsAt G vs l → DpAll K G vs (l.map dRun)
  | _, _, .nil => .nil
  | _, _, .cons (p := p) a b => .cons (.lst (.inl (.inl a)) (by rw [vi_ci]; exact dp_ints _)) (RunsAt.dp b)
section
variable {P : Program} {w : World} {K : PySem.W.Frag} {mg : Str → Option Value} {base : Heap}
def sp_L_piles (K : PySem.W.Frag) : Sp := fun vs H Q _ => ∃ (a : Addr) (t : T), vs = [.ref a] ∧ SqT K H a (vi t.sch) ∧ t.size ≤ 60 ∧ ∀ H' G p, Same H H' → Same G H' → (∀ b o, H b = some o → G b = none) → Dp K G (.ref p) (.list (dPils t)) → Q (.ref p) H'
def PilInv (K : PySem.W.Frag) (t : T) (H : Hp) (a F : Addr) (i : Nat) (σ : L2.St) (H' : Hp) : Prop :=
  ∃ (y3 y4 y5 y6 : Option V) (p : Addr) (G : Hp) (vs cs : List V), σ = [some (.ref a), some (.ref p), some (.ref F), y3, y4, y5, y6] ∧ Same H H' ∧ Same G H' ∧ (∀ b o, H b = some o → G b = none) ∧ G F = none ∧ G p = none ∧ p ≠ F ∧ H p = none ∧
    H' p = some (.lst vs) ∧ RunsAt G vs ((pre t i).stk 0) ∧ H' F = some (.lst cs) ∧ DpAll K G cs ((dPils t).take i)
theorem ok_L_piles (TX : Tx K mg) : FnOk P w K mg base CX0 1 TX.a_L_piles TX.fd_L_piles ["_law_plan"] (sp_L_piles K) := by
  refine TX.f_L_piles.ok sc_L_piles (fun vs H Q E h => ?_) (fun cdv A outer s H vs Q E hr h => ?_)
  · obtain ⟨a, t, rfl, _⟩ := h; rfl
  · obtain ⟨a, t, rfl, hS, hz, q⟩ := h
    have hlen : (vi t.sch).length = t.size := by rw [vi_len, T.sch_len]
    refine ⟨_, (pss_cons (ps_par (i := 1) (j := 2) (by rfl) sc_L_piles.nd rfl rfl (by decide) rfl rfl (pa_cons (pe_lst pa_nil) (pa_cons (pe_lst pa_nil) pa_nil)) (by rfl))
      (pss_cons (ps_for PassesOwn.never rfl (pi_enumT (by rfl) TX.b_enumerate (pa_cons (pv 0) pa_nil)) (pg_tup rfl (pgs_cons (pg_name (i := 3) sc_L_piles.nd rfl (.inl rfl)) (pgs_cons (pg_name (i := 4) sc_L_piles.nd rfl (.inl rfl)) pgs_nil)))
        (pss_cons (ps_set (i := 5) sc_L_piles.nd rfl (.inl rfl) (pe_lst pa_nil))
        (pss_cons (ps_for PassesOwn.never rfl (pi_range1 (by rfl) TX.b_range (pa_cons (pv 4) pa_nil)) (pg_name (i := 6) sc_L_piles.nd rfl (.inl rfl))
          (pss_one (ps_set (i := 5) sc_L_piles.nd rfl (.inl rfl) (pe_op op_cat (pe_bm0 PySem.F.plainAttrs_list PySem.F.slot_list_pop PySem.F.type_list_pop mt_pop (pv 1)) (pv 5)))))
        (pss_cons (ps_set (i := 1) sc_L_piles.nd rfl (.inl rfl) (pe_op op_cat (pv 1) (pe_lst (pa_cons (pe_op op_cat (pv 5) (pe_lst (pa_cons (pv 3) pa_nil))) pa_nil))))
        (pss_one (ps_expr (pe_bm PySem.F.plainAttrs_list PySem.F.slot_list_append PySem.F.type_list_append mt_append (pv 2) (pa_cons (pe_callTy (T := "list") (k_listOf (K := K) rfl) (by rfl) TX.b_list (by decide +kernel) (pa_cons (pv 1) pa_nil)) pa_nil))))))))
      (pss_one (ps_ret (pv 2))))), ?_⟩
    refine ⟨sz60 (by simp), fun p0 n0 => ⟨sz60 (by simp), fun F nF => ⟨_, _, rfl, ?_⟩⟩⟩
    have s0 : Same H (upd H p0 (.lst [])) := same_upd n0
    have s1 : Same (upd H p0 (.lst [])) (upd (upd H p0 (.lst [])) F (.lst [])) := same_upd nF
    have nFH : H F = none := s0.free nF
    have np0 : p0 ≠ F := fun e => by rw [e, upd_same] at nF; cases nF
    refine ⟨.ref a, rfl, a, _, rfl, Same.tup (s0.trans s1) hS, for_it walk_enumT (PilInv K t H a F)
      ⟨none, none, none, none, p0, fun _ => none, [], [], rfl, s0.trans s1, fun _ _ e => (nomatch e), fun _ _ _ => rfl, rfl, rfl, np0, n0, s1 _ _ upd_same, .nil, upd_same, .nil⟩ (fun i σ H' _ ⟨_, _, _, _, _, _, _, _, _, h, _⟩ => Same.tup h hS) ?_ ?_⟩
    · rintro i x σ H1 H2 hi ⟨y3, y4, y5, y6, p, G, vs, cs, rfl, sm, sG, dis, gF, gp, npF, npH, hp, hR, hF, hC⟩ hy
      obtain ⟨Tp, x1, x2, rfl, nT, rfl, e1, e2⟩ := hy
      cases e1
      rw [hlen] at hi
      obtain ⟨m, hm⟩ : ∃ m, t.sch[i]? = some m := ⟨_, List.getElem?_eq_getElem (show i < t.sch.length by rw [T.sch_len]; exact hi)⟩
      replace e2 : (vi t.sch)[i]? = some x2 := e2
      rw [vi_get hm] at e2
      cases e2
      obtain ⟨f1, f2⟩ := pre_succ hm
      have f3 := stk_last hm
      have hps : (pre t i).size = i := pre_size (by omega)
      have hst := T.start_le _ _ f2
      have hrl := T.runs_le (pre t i)
      have sT : Same H1 (upd H1 Tp (.tup [.int (i : Nat), .int (m : Int)])) := same_upd nT
      refine ⟨Tp, _, rfl, .inl (.inl upd_same), rfl, _, _, rfl, _, [], rfl, rfl, ?_⟩
      have sm2 := sm.trans sT
      have sG2 := sG.trans sT
      have hp2 := sT _ _ hp
      have hF2 := sT _ _ hF
      generalize upd H1 Tp (.tup [.int (i : Nat), .int (m : Int)]) = H2 at sm2 sG2 hp2 hF2 ⊢
      refine ⟨sz60 (by simp), fun n1 nn1 => ?_⟩
      have s3 := same_upd (o := .lst []) nn1
      have nnp : n1 ≠ p := fun e => by rw [e, hp2] at nn1; cases nn1
      have nnF : n1 ≠ F := fun e => by rw [e, hF2] at nn1; cases nn1
      -- the runs that are merged
      refine ⟨_, rfl, _, rfl, by omega, by omega, for_range (lo := 0) (n := ((m : Nat) : Int).toNat) (fun j σ H' => ∃ (y6 : Option V) (nw : Addr) (ws : List V), σ = [some (.ref a), some (.ref p), some (.ref F), some (.int (i : Nat)), some (.int (m : Int)), some (.ref nw), y6] ∧ Same H H' ∧ Same G H' ∧ H' p = some (.lst ws) ∧ RunsAt G ws (((pre t i).stk 0).take ((pre t i).runs - j)) ∧ H' nw = some (.lst (vi (seg ((pre t i).start j) i))) ∧ nw ≠ p ∧ nw ≠ F ∧ H' F = some (.lst cs))
        ⟨y6, n1, vs, rfl, sm2.trans s3, sG2.trans s3, s3 _ _ hp2, ?_, ?_, nnp, nnF, s3 _ _ hF2⟩ ?_ ?_⟩
      · rw [Nat.sub_zero, List.take_of_length_le (by rw [T.stk_len]; omega)]; exact hR
      · rw [T.start_zero _ 0 (by omega) rfl, hps, seg_nil]; exact upd_same
      · rintro j σ H4 hj ⟨y6', nw, ws, rfl, s4, sG4, hp4, hR4, hw4, nwp, nwF, hF4⟩
        have hjm : j + 1 ≤ (pre t i).runs := by omega
        rw [stk_take_succ 0 hjm, Nat.zero_add, Nat.zero_add] at hR4
        obtain ⟨us, r, rfl, hR5, hr5⟩ := RunsAt.snoc hR4
        have hdl : (us ++ [V.ref r]).dropLast = us := by simp
        have nrp : r ≠ p := fun e => by rw [e, gp] at hr5; cases hr5
        have sta := start_anti (pre t i) j hjm
        have stl := T.start_le (pre t i) j (by omega)
        refine ⟨.ref p, rfl, .inl ⟨rfl, _, .inl (.inl hp4)⟩, p, _, .ref r, rfl, rfl, hp4, by simp, .ref nw, rfl, r, nw, vi (seg ((pre t i).start (j + 1)) ((pre t i).start j)), vi (seg ((pre t i).start j) i), rfl, rfl, ?_, ?_, sz60 (by rw [vi_len, vi_len, seg_len, seg_len]; omega), fun z nz => ?_⟩
        · rw [upd_ne nrp]; exact sG4 _ _ hr5
        · rw [upd_ne nwp]; exact hw4
        rw [hdl] at nz ⊢
        have sz := same_upd (o := .lst (vi (seg ((pre t i).start (j + 1)) ((pre t i).start j)) ++ vi (seg ((pre t i).start j) i))) nz
        have nzp : z ≠ p := fun e => by rw [e, upd_same] at nz; cases nz
        have nzF : z ≠ F := fun e => by rw [e, upd_ne npF.symm, hF4] at nz; cases nz
        refine ⟨_, z, us, rfl, (Same.mut s4 npH).trans sz, (Same.mut sG4 gp).trans sz, sz _ _ upd_same, hR5, ?_, nzp, nzF, sz _ _ (by rw [upd_ne npF.symm]; exact hF4)⟩
        have e : vi (seg ((pre t i).start (j + 1)) i) = vi (seg ((pre t i).start (j + 1)) ((pre t i).start j)) ++ vi (seg ((pre t i).start j) i) := by
          rw [← vi_app, seg_app (by omega) (by omega)]
        rw [e]; exact upd_same
      · rintro σ H4 ⟨y6', nw, ws, rfl, s4, sG4, hp4, hR4, hw4, nwp, nwF, hF4⟩
        rw [Int.toNat_natCast] at hR4 hw4
        have hwl := RunsAt.len hR4
        rw [List.length_take, T.stk_len] at hwl
        -- piles + [newest + [flush]]
        refine ⟨.ref p, rfl, .ref nw, rfl, .int (i : Nat), rfl, sz60 (by simp), fun z1 nz1 => ?_⟩
        have s5 := same_upd (o := .lst [V.int (i : Nat)]) nz1
        refine ⟨nw, z1, _, _, rfl, rfl, s5 _ _ hw4, upd_same, sz60 (by simp [vi_len, seg_len]; omega), fun r nr => ⟨sz60 (by simp), fun z2 nz2 => ?_⟩⟩
        have s6 := same_upd (o := .lst (vi (seg ((pre t i).start m) i) ++ [V.int (i : Nat)])) nr
        have s7 := same_upd (o := .lst [V.ref r]) nz2
        refine ⟨p, z2, _, _, rfl, rfl, s7 _ _ (s6 _ _ (s5 _ _ hp4)), upd_same, sz60 (by simp; omega), fun p' np' => ?_⟩
        have s8 := same_upd (o := .lst (ws ++ [V.ref r])) np'
        have s48 := ((s5.trans s6).trans s7).trans s8
        have hr8 : (upd (upd (upd (upd H4 z1 (.lst [V.int (i : Nat)])) r (.lst (vi (seg ((pre t i).start m) i) ++ [V.int (i : Nat)]))) z2 (.lst [V.ref r])) p' (.lst (ws ++ [V.ref r]))) r = some (.lst (vi (seg ((pre t i).start m) (i + 1)))) := by
          have e : vi (seg ((pre t i).start m) (i + 1)) = vi (seg ((pre t i).start m) i) ++ [V.int (i : Nat)] := by
            rw [← seg_app (b := i) (by omega) (by omega), seg_one, vi_app]; rfl
          rw [e]; exact s8 _ _ (s7 _ _ upd_same)
        have hp8 : (upd (upd (upd (upd H4 z1 (.lst [V.int (i : Nat)])) r (.lst (vi (seg ((pre t i).start m) i) ++ [V.int (i : Nat)]))) z2 (.lst [V.ref r])) p' (.lst (ws ++ [V.ref r]))) p' = some (.lst (ws ++ [V.ref r])) := upd_same
        have hF8 := s48 _ _ hF4
        have nrH4 : H4 r = none := s5.free nr
        have np4 : H4 p' = none := ((s5.trans s6).trans s7).free np'
        have npr : p' ≠ r := fun e => by rw [e] at np'; have := s7.free np'; rw [upd_same] at this; cases this
        generalize upd (upd (upd (upd H4 z1 (.lst [V.int (i : Nat)])) r (.lst (vi (seg ((pre t i).start m) i) ++ [V.int (i : Nat)]))) z2 (.lst [V.ref r])) p' (.lst (ws ++ [V.ref r])) = H8 at s48 hr8 hp8 hF8 ⊢
        -- found.append(list(piles))
        refine ⟨.ref F, rfl, .inl ⟨rfl, _, .inl (.inl hF8)⟩, .ref p', rfl, p', _, rfl, .inl (.inl (.inl hp8)), fun c nc => ?_⟩
        have s9 := same_upd (o := .lst (ws ++ [V.ref r])) nc
        have hcl := DpAll.len hC
        rw [List.length_take, dPils_len] at hcl
        refine ⟨F, _, _, rfl, rfl, s9 _ _ hF8, sz61 (by omega), ?_⟩
        -- what stays for ever
        have gr4 : G r = none := sG4.free nrH4
        have gc : (upd G r (.lst (vi (seg ((pre t i).start m) (i + 1))))) c = none := (Same.put (sG4.trans s48) hr8).free nc
        have sG9 : Same (upd (upd G r (.lst (vi (seg ((pre t i).start m) (i + 1))))) c (.lst (ws ++ [V.ref r]))) (upd H8 c (.lst (ws ++ [V.ref r]))) := Same.put ((Same.put (sG4.trans s48) hr8).trans s9) upd_same
        have nF4 : F ≠ r := fun e => by rw [← e, hF4] at nrH4; cases nrH4
        have nFc : F ≠ c := fun e => by rw [← e, hF8] at nc; cases nc
        have npc : p' ≠ c := fun e => by rw [← e, hp8] at nc; cases nc
        have gr9 : Same G (upd (upd G r (.lst (vi (seg ((pre t i).start m) (i + 1))))) c (.lst (ws ++ [V.ref r]))) := (same_upd gr4).trans (same_upd gc)
        have hRn : RunsAt (upd (upd G r (.lst (vi (seg ((pre t i).start m) (i + 1))))) c (.lst (ws ++ [V.ref r]))) (ws ++ [V.ref r]) ((pre t (i + 1)).stk 0) := by
          rw [f3]
          exact RunsAt.add (same_upd gc _ _ upd_same) (RunsAt.same gr9 hR4)
        have gF9 : (upd (upd G r (.lst (vi (seg ((pre t i).start m) (i + 1))))) c (.lst (ws ++ [V.ref r]))) F = none := by rw [upd_ne nFc, upd_ne nF4]; exact gF
        have gp4 : G p' = none := sG4.free np4
        refine ⟨_, _, _, _, p', upd (upd G r (.lst (vi (seg ((pre t i).start m) (i + 1))))) c (.lst (ws ++ [V.ref r])), ws ++ [V.ref r], cs ++ [.ref c], rfl, Same.mut ((s4.trans s48).trans s9) nFH, Same.mut sG9 gF9, fun b o e => ?_, gF9, ?_, ?_, s4.free np4, ?_, hRn, upd_same, ?_⟩
        · have hb4 := s4 _ _ e
          rw [upd_ne (fun z => by rw [z] at hb4; have := s48 _ _ hb4; rw [nc] at this; cases this), upd_ne (fun z => by rw [z, nrH4] at hb4; cases hb4)]
          exact dis b o e
        · rw [upd_ne npc, upd_ne npr]; exact gp4
        · exact fun e => by rw [e, hF4] at np4; cases np4
        · rw [upd_ne (fun e => by rw [e, hF4] at np4; cases np4)]; exact s9 _ _ hp8
        · rw [dPils_take hi]
          exact DpAll.append (DpAll.same gr9 hC) (.cons (.lst (.inl (.inl upd_same)) (RunsAt.dp hRn)) .nil)
    · rintro σ H' ⟨y3, y4, y5, y6, p, G, vs, cs, rfl, sm, sG, dis, gF, gp, npF, npH, hp, hR, hF, hC⟩
      rw [hlen, List.take_of_length_le (by rw [dPils_len]; omega)] at hC
      refine ⟨.ref F, rfl, q H' (upd G F (.lst cs)) F sm (Same.put sG hF) (fun b o e => ?_) (.lst (.inl (.inl upd_same)) (DpAll.same (same_upd gF) hC))⟩
      rw [upd_ne (ne_of_none e nFH)]
      exact dis b o e
end
theorem Dp.lstInv {K : PySem.W.Frag} {H : Hp} {v : V} {ds : List PyData} (h : Dp K H v (.list ds)) : ∃ a xs, v = .ref a ∧ SqL K H a xs ∧ DpAll K H xs ds := by
  cases h with
  | lst h1 h2 => exact ⟨_, _, rfl, h1, h2⟩
theorem Dp.runInv {K : PySem.W.Frag} {H : Hp} {v : V} {p : Nat × Nat} (h : Dp K H v (dRun p)) : ∃ a, v = .ref a ∧ SqL K H a (vi (seg p.1 p.2)) := by
  obtain ⟨a, xs, e, h1, h2⟩ := Dp.lstInv h
  rw [dp_ints_inv h2, ← vi_ci] at h1
  exact ⟨a, e, h1⟩
section
variable {P : Program} {w : World} {K : PySem.W.Frag} {mg : Str → Option Value} {base : Heap}
def sp_L_written (K : PySem.W.Frag) : Sp := fun vs H Q _ => ∃ (a : Addr) (t : T), vs = [.ref a] ∧ SqT K H a (vi t.sch) ∧ t.size ≤ 60 ∧ ∀ H' p, Same H H' → H p = none → H' p = some (.lst (vi t.wr)) → Q (.ref p) H'
theorem ok_L_written (TX : Tx K mg) : FnOk P w K mg base CX0 2 TX.a_L_written TX.fd_L_written ["_law_plan"] (sp_L_written K) := by
  refine TX.f_L_written.ok sc_L_written (fun vs H Q E h => ?_) (fun cdv A outer s H vs Q E hr h => ?_)
  · obtain ⟨a, t, rfl, _⟩ := h; rfl
  · obtain ⟨a, t, rfl, hS, hz, q⟩ := h
    have hlen : (vi t.sch).length = t.size := by rw [vi_len, T.sch_len]
    refine ⟨_, (pss_cons (ps_set (i := 1) sc_L_written.nd rfl (.inl rfl) (pe_op op_rep (pe_lst (pa_cons pe_int pa_nil)) (pe_callB (id := "len") (k_len (K := K) rfl) (by rfl) TX.b_len (by decide +kernel) (pa_cons (pv 0) pa_nil))))
      (pss_cons (ps_for PassesOwn.never rfl (k_piL (K := K) rfl (pe_call (ok_L_piles TX) (hr.mono (by decide)) (by rfl) TX.g_L_piles TX.f_L_piles.kp TX.bd_L_piles .nil pass0 (pa_cons (pv 0) pa_nil))) (pg_name (i := 2) sc_L_written.nd rfl (.inl rfl))
        (pss_one (ps_for PassesOwn.never rfl (k_piL (K := K) rfl (pe_ix (k_ixL (K := K) rfl) (pv 2) (pe_un un_neg pe_int) (fun _ _ => rfl))) (pg_name (i := 3) sc_L_written.nd rfl (.inl rfl))
          (pss_one (ps_asg (pe_op op_add (pe_ix (k_ixL (K := K) rfl) (pv 1) (pv 3) (fun _ _ => rfl)) pe_int) (pg_sub (pv 1) (pv 3) set_list))))))
      (pss_one (ps_ret (pv 1))))), ?_⟩
    refine ⟨sz60 (by simp), fun z nz => ?_⟩
    have s2 : Same H (upd H z (.lst [.int 0])) := same_upd nz
    refine ⟨.ref a, rfl, a, _, rfl, .inr (Same.tup s2 hS), z, _, _, rfl, rfl, upd_same, by omega, by omega, sz60 (by simp; omega), fun l nl => ?_⟩
    have s3 := same_upd (o := .lst (List.replicate (((vi t.sch).length : Int)).toNat [V.int 0]).flatten) nl
    have ec : (List.replicate (((vi t.sch).length : Int)).toNat [V.int 0]).flatten = vi (List.replicate t.size 0) := by
      rw [vi_rep, Int.toNat_natCast, hlen, List.flatten_replicate_singleton]; rfl
    rw [ec] at s3 ⊢
    have nlH : H l = none := s2.free nl
    have s13 := s2.trans s3
    generalize hH3 : upd (upd H z (HO.lst [V.int 0])) l (HO.lst (vi (List.replicate t.size 0))) = H3 at s3 s13 ⊢
    have hl3 : H3 l = some (.lst (vi (List.replicate t.size 0))) := by rw [← hH3]; exact upd_same
    refine ⟨.ref a, rfl, a, t, rfl, Same.tup s13 hS, hz, fun H4 G p s4 sG dis hD => ?_⟩
    obtain ⟨p', xs, e, hX, hA⟩ := Dp.lstInv hD
    cases e
    have gl : G l = none := dis _ _ hl3
    have hxl := DpAll.len hA
    rw [dPils_len] at hxl
    refine ⟨p, rfl, ⟨_, sG.seq hX⟩, for_list (K := K) (xs := xs) (fun i σ H' => ∃ (y2 y3 : Option V) (c : List Nat), σ = [some (.ref a), some (.ref l), y2, y3] ∧ Same H H' ∧ Same G H' ∧ H' l = some (.lst (vi c)) ∧ c.length = t.size ∧ ∀ k, k < t.size → c[k]? = some ((pre t i).wr.getD k 0))
      ⟨none, none, List.replicate t.size 0, rfl, s13.trans s4, sG, s4 _ _ hl3, by simp, fun k hk => by rw [List.getElem?_replicate, if_pos hk]; rfl⟩ (fun i σ H' _ ⟨_, _, _, _, _, h, _⟩ => h.seq hX) ?_ ?_⟩
    · rintro i x σ H5 hx ⟨y2, y3, c, rfl, s5, sG5, hc, hcl, hcv⟩
      have hi : i < t.size := by rw [← hxl]; exact (List.getElem?_eq_some_iff.mp hx).1
      obtain ⟨m, hm⟩ : ∃ m, t.sch[i]? = some m := ⟨_, List.getElem?_eq_getElem (show i < t.sch.length by rw [T.sch_len]; exact hi)⟩
      obtain ⟨f1, f2⟩ := pre_succ hm
      have fs := T.start_le _ _ f2
      rw [pre_size (by omega)] at fs
      obtain ⟨v, g1, g2⟩ := DpAll.get hA (dPils_at hi)
      rw [hx] at g1
      cases g1
      obtain ⟨b, us, rfl, g3, g4⟩ := Dp.lstInv g2
      rw [stk_last hm, List.map_append] at g4
      obtain ⟨us', v', rfl, _, g5⟩ := DpAll.snoc g4
      obtain ⟨b', rfl, g6⟩ := Dp.runInv g5
      refine ⟨.ref b, rfl, _, rfl, b, _, -1, _, rfl, rfl, sG5.seq g3, atI_last _ _, b', rfl, ⟨_, sG5.seq g6⟩, for_list (K := K) (xs := vi (seg ((pre t i).start m) (i + 1)))
        (fun j σ H' => ∃ (y3 : Option V) (c : List Nat), σ = [some (.ref a), some (.ref l), some (.ref b), y3] ∧ Same H H' ∧ Same G H' ∧ H' l = some (.lst (vi c)) ∧ c.length = t.size ∧ ∀ k, k < t.size → c[k]? = some (if (pre t i).start m ≤ k ∧ k < (pre t i).start m + j then (pre t i).wr.getD k 0 + 1 else (pre t i).wr.getD k 0))
        ⟨y3, c, rfl, s5, sG5, hc, hcl, fun k hk => by rw [if_neg (by omega)]; exact hcv k hk⟩ (fun j σ H' _ ⟨_, _, _, _, h, _⟩ => h.seq g6) ?_ ?_⟩
      · rintro j x σ H6 hx ⟨y3, c, rfl, s6, sG6, hc, hcl, hcv⟩
        have hj : j < i + 1 - (pre t i).start m := by
          have := (List.getElem?_eq_some_iff.mp hx).1
          rwa [vi_len, seg_len] at this
        have hj2 : (pre t i).start m + j < t.size := by omega
        rw [vi_get (seg_at (by omega))] at hx
        cases hx
        have h6 := hcv _ hj2
        rw [if_neg (by omega)] at h6
        refine ⟨.ref l, rfl, _, rfl, l, _, _, _, rfl, rfl, .inl (.inl hc), at_vi h6, _, _, rfl, rfl, .ref l, rfl, _, rfl, l, _, _, _, rfl, rfl, hc, ixN_of (by rw [vi_len]; omega), ?_⟩
        have e2 : (((pre t i).wr.getD ((pre t i).start m + j) 0 : Nat) : Int) + 1 = (((pre t i).wr.getD ((pre t i).start m + j) 0 + 1 : Nat) : Int) := by omega
        refine ⟨_, c.set ((pre t i).start m + j) ((pre t i).wr.getD ((pre t i).start m + j) 0 + 1), rfl, Same.mut s6 nlH, Same.mut sG6 gl, ?_, by rw [List.length_set]; exact hcl, fun k hk => ?_⟩
        · rw [← vi_set, ← e2]; exact upd_same
        · by_cases hk2 : (pre t i).start m + j = k
          · rw [← hk2, List.getElem?_set_self (by omega), if_pos (by omega)]
          · rw [List.getElem?_set_ne hk2, hcv k hk]
            by_cases hk3 : (pre t i).start m ≤ k ∧ k < (pre t i).start m + j
            · rw [if_pos hk3, if_pos (by omega)]
            · rw [if_neg hk3, if_neg (by omega)]
      · rintro σ H6 ⟨y3, c, rfl, s6, sG6, hc, hcl, hcv⟩
        rw [vi_len, seg_len] at hcv
        refine ⟨_, y3, c, rfl, s6, sG6, hc, hcl, fun k hk => ?_⟩
        rw [hcv k hk, f1, wr_step f2, pre_size (by omega)]
        by_cases hk3 : (pre t i).start m ≤ k ∧ k < i + 1
        · rw [if_pos (by omega), if_pos hk3]
        · rw [if_neg (by omega), if_neg hk3]
    · rintro σ H5 ⟨y2, y3, c, rfl, s5, sG5, hc, hcl, hcv⟩
      rw [hxl, pre_all] at hcv
      have ecw : c = t.wr := list_by (by rw [hcl, T.wr_len]) fun k hk => hcv k (by omega)
      rw [ecw] at hc
      exact ⟨.ref l, rfl, q H5 l s5 nlH hc⟩
end
theorem ciSum : ∀ p : List Nat, (ci p).sum = (p.sum : Int)
  | [] => rfl
  | m :: r => by
    have := ciSum r
    show ((m : Int) :: ci r).sum = _
    rw [List.sum_cons, this, List.sum_cons]; omega
def allS : Nat → List T
  | 0 => [.nil]
  | n + 1 => (allS n).flatMap fun t => (List.range (t.runs + 1)).map t.push
theorem allS_size : ∀ (n : Nat) (t : T), t ∈ allS n → t.size = n
  | 0, t, h => by
    have : t = .nil := by simpa [allS] using h
    rw [this]; rfl
  | n + 1, t, h => by
    simp only [allS, List.mem_flatMap, List.mem_map, List.mem_range] at h
    obtain ⟨u, hu, m, hm, rfl⟩ := h
    rw [T.push_size u m (by omega), allS_size n u hu]
theorem allS_len {n : Nat} (h : n ≤ 8) : (allS n).length ≤ 1430 := by
  have h8 : ∀ n : Fin 9, (allS n.val).length ≤ 1430 := by decide +kernel
  exact h8 ⟨n, by omega⟩
def dSch (t : T) : PyData := .tuple ((ci t.sch).map PyData.int)
theorem tf_sch (t : T) : Tf (dSch t) := .tup (tf_ints _)
def dNext (t : T) : List PyData := (List.range (t.runs + 1)).map fun m => dSch (t.push m)
theorem tf_next (t : T) : ∀ d, d ∈ dNext t → Tf d := fun d h => by
  obtain ⟨m, _, rfl⟩ := List.mem_map.mp h
  exact tf_sch _
theorem tf_nexts (L : List T) : ∀ d, d ∈ L.flatMap dNext → Tf d := fun d h => by
  obtain ⟨t, _, h⟩ := List.mem_flatMap.mp h
  exact tf_next t d h
theorem dNext_all (n : Nat) : (allS n).flatMap dNext = (allS (n + 1)).map dSch := by
  rw [allS, List.map_flatMap]
  congr 1
  funext t
  rw [dNext, List.map_map]; rfl
theorem flat_take {L : List T} {j : Nat} {t : T} (h : L[j]? = some t) : (L.take (j + 1)).flatMap dNext = (L.take j).flatMap dNext ++ dNext t := by
  rw [List.take_add_one, h]
  simp [List.flatMap_append]
theorem flat_le (L : List T) (j : Nat) : ((L.take j).flatMap dNext).length ≤ (L.flatMap dNext).length := by
  conv => rhs; rw [← List.take_append_drop j L, List.flatMap_append, List.length_append]
  omega
section
variable {P : Program} {w : World} {K : PySem.W.Frag} {mg : Str → Option Value} {base : Heap}
def sp_L_all (K : PySem.W.Frag) : Sp := fun vs H Q _ => ∃ n : Nat, vs = [.int (n : Int)] ∧ n ≤ 8 ∧ ∀ H' p xs, Same H H' → H' p = some (.lst xs) → DpAll K H' xs ((allS n).map dSch) → Q (.ref p) H'
theorem ok_L_all (TX : Tx K mg) : FnOk P w K mg base CX0 1 TX.a_L_all TX.fd_L_all ["_law_size"] (sp_L_all K) := by
  refine TX.f_L_all.ok sc_L_all (fun vs H Q E h => ?_) (fun cdv A outer s H vs Q E hr h => ?_)
  · obtain ⟨n, rfl, _⟩ := h; rfl
  · obtain ⟨n, rfl, hn, q⟩ := h
    refine ⟨_, (pss_cons (ps_set (i := 1) sc_L_all.nd rfl (.inl rfl) (pe_lst (pa_cons (pe_tup pa_nil) pa_nil)))
      (pss_cons (ps_for PassesOwn.never rfl (pi_range1 (by rfl) TX.b_range (pa_cons (pv 0) pa_nil)) (pg_name (i := 2) sc_L_all.nd rfl (.inl rfl))
        (pss_cons (ps_set (i := 3) sc_L_all.nd rfl (.inl rfl) (pe_lst pa_nil))
        (pss_cons (ps_for PassesOwn.never rfl (k_piL (K := K) rfl (pv 1)) (pg_name (i := 4) sc_L_all.nd rfl (.inr rfl))
          (pss_one (ps_expr (pe_bm PySem.F.plainAttrs_list PySem.F.slot_list_extend PySem.F.type_list_extend mt_extend (pv 3) (pa_cons (pe_lc (own := [("_law_merge", 5)]) (by rfl) sc_L_all.nd (pi_range1 (by rfl) TX.b_range (pa_cons (pe_op op_add (pe_op op_sub (pv 2) (pe_callB (id := "sum") (k_sumT (K := K) rfl rfl) (by rfl) TX.b_sum (by decide +kernel) (pa_cons (pv 4) pa_nil))) pe_int) pa_nil)) (blkOk_by (own := [("_law_merge", 5)]) (N := N_L_all) (sc := defScope s_L_all) (by decide +kernel)) (fun _ _ _ _ _ => (pg_name (i := 5) sc_L_all.nd rfl (Or.inl rfl))) (fun _ _ _ _ _ => pts_nil) (fun _ _ _ _ _ => (pe_op (k_catT (K := K) rfl) (pv 4) (pe_tup (pa_cons (pv 5) pa_nil))))) pa_nil)))))
        (pss_one (ps_set (i := 1) sc_L_all.nd rfl (.inl rfl) (pv 3))))))
      (pss_one (ps_ret (pv 1))))), ?_⟩
    refine ⟨sz60 (by simp), fun e0 n0 => ⟨sz60 (by simp), fun f0 nf0 => ?_⟩⟩
    have s0 := (same_upd (o := .tup []) n0).trans (same_upd (o := .lst [V.ref e0]) nf0)
    refine ⟨_, rfl, _, rfl, by omega, by omega, ?_⟩
    rw [show ((n : Int)).toNat = n by omega]
    refine for_range (lo := 0) (n := n) (fun i σ H' => ∃ f xs y2 y3 y4 y5, σ = [some (.int (n : Int)), some (.ref f), y2, y3, y4, y5] ∧ Same H H' ∧ H' f = some (.lst xs) ∧ DpAll K H' xs ((allS i).map dSch)) ⟨f0, [V.ref e0], none, none, none, none, rfl, s0, upd_same, .cons (.tup (Same.tup (same_upd nf0) (.inl (.inl upd_same))) .nil) .nil⟩ ?_ ?_
    · rintro i σ H1 hi ⟨f, xs, y2, y3, y4, y5, rfl, s1, hf, hA⟩
      have hi' : i < n := hi
      have ei : (0 : Int) + (i : Nat) = (i : Int) := by omega
      rw [ei]
      refine ⟨sz60 (by simp), fun L nL => ?_⟩
      have hxl := DpAll.len hA
      rw [List.length_map] at hxl
      refine ⟨.ref f, rfl, f, rfl, ⟨_, .inl (.inl (same_upd nL _ _ hf))⟩, for_it (walk_list (K := K) (xs := xs)) (fun j σ H' => ∃ y4 y5, σ = [some (.int (n : Int)), some (.ref f), some (.int (i : Int)), some (.ref L), y4, y5] ∧ Same H1 H' ∧ ∃ acc, H' L = some (.lst acc) ∧ DpAll K H' acc (((allS i).take j).flatMap dNext)) ⟨_, _, rfl, same_upd nL, [], upd_same, .nil⟩ (fun j σ H' _ ⟨_, _, _, h, _⟩ => .inl (.inl (h _ _ hf))) ?_ ?_⟩
      · rintro j x σ H2 H2' hj ⟨y4, y5, rfl, s2, acc, hL, hAcc⟩ ⟨rfl, hx⟩
        rw [hxl] at hj
        have ht : (allS i)[j]? = some (allS i)[j] := List.getElem?_eq_getElem hj
        generalize (allS i)[j] = t at ht
        have hz := allS_size i t (List.mem_of_getElem? ht)
        obtain ⟨v, g1, g2⟩ := DpAll.get hA (show ((allS i).map dSch)[j]? = some (dSch t) by rw [List.getElem?_map, ht]; rfl)
        rw [hx] at g1
        cases g1
        obtain ⟨b, rfl, g3⟩ := Dp.intsInv g2
        have g3' := Same.tup s2 g3
        have e1 : ((i : Int) - (ci t.sch).sum + 1) = ((t.runs + 1 : Nat) : Int) := by
          have := T.sum_sch t
          rw [ciSum]; omega
        have hrl := T.runs_le t
        refine ⟨.ref L, rfl, .inl ⟨rfl, _, .inl (.inl hL)⟩, _, rfl, .ref b, rfl, b, _, rfl, g3', _, _, rfl, rfl, _, _, rfl, rfl, _, rfl, ?_, ?_, fun D nD => ?_⟩
        · rw [e1]; omega
        · rw [e1]; omega
        rw [e1, Int.toNat_natCast]
        refine lc_all (K := K) walk_range (dNext t) (by rw [dNext, List.length_map, List.length_range]) (tf_next t) (by omega) nD (fun _ _ => trivial) ?_ ?_ (fun x σ' H' Q Q' h => h _ _) (fun σ' H' Q Q' h => h _ _)
        · rintro m x Hx Hx' hm sx hy d hd R hR
          obtain ⟨rfl, rfl⟩ := hy
          have ed : d = dSch (t.push m) := by
            rw [dNext, List.getElem?_map, List.getElem?_range hm] at hd
            exact (Option.some.inj hd).symm
          subst ed
          have em : (0 : Int) + (m : Nat) = (m : Int) := by omega
          show gName 5 (V.int ((0 : Int) + (m : Nat))) _ _ _
          rw [em]
          refine ⟨rfl, rfl, .ref b, rfl, _, rfl, sz60 (by simp), fun o no => ?_⟩
          have so := same_upd (o := .tup [V.int (m : Int)]) no
          refine cat_read (Same.tup (sx.trans so) g3') (.inl (.inl upd_same)) (by simp [ci, T.sch_len]; omega) fun o2 H4 s4 h4 => hR _ _ (so.trans s4) (dp_tup (ns := ci (t.push m).sch) ?_)
          rw [T.push_sch t m (by omega)]
          have e2 : ((ci (t.sch ++ [m])).map V.int) = (ci t.sch).map V.int ++ [V.int (m : Int)] := by simp [ci]
          rw [e2]; exact h4
        intro H3 acc3 s3 hD3 hA3
        have hal := DpAll.len hAcc
        have hal3 := DpAll.len hA3
        have hle : acc.length + acc3.length ≤ 1430 := by
          rw [hal, hal3, ← List.length_append, ← flat_take ht]
          refine Nat.le_trans (flat_le _ _) ?_
          rw [dNext_all, List.length_map]
          exact allS_len (by omega)
        refine ⟨L, D, acc, acc3, rfl, rfl, s3 _ _ hL, hD3, sz60 (by omega), ?_⟩
        refine ⟨_, _, rfl, Same.mut (s2.trans s3) nL, _, upd_same, ?_⟩
        rw [flat_take ht]
        exact DpAll.append (DpAll.keep (But.keep But.upd (s3 _ _ hL)) (tf_nexts _) (DpAll.same s3 hAcc)) (DpAll.keep (But.keep But.upd (s3 _ _ hL)) (tf_next t) hA3)
      · rintro σ H2 ⟨y4, y5, rfl, s2, acc, hL, hAcc⟩
        refine ⟨.ref L, rfl, L, acc, _, _, _, _, rfl, s1.trans s2, hL, ?_⟩
        rw [hxl, List.take_of_length_le (Nat.le_refl _), dNext_all] at hAcc
        exact hAcc
    · rintro σ H1 ⟨f, xs, y2, y3, y4, y5, rfl, s1, hf, hA⟩
      exact ⟨.ref f, rfl, q _ _ _ s1 hf hA⟩
end
/-! ### a dict that counts pairs -/
def ek (k : Nat × Nat) : List L2.Key := [.inl (k.1 : Int), .inl (k.2 : Int)]
theorem ek_inj {a b : Nat × Nat} (h : ek a = ek b) : a = b := by
  unfold ek at h
  simp only [List.cons.injEq, Sum.inl.injEq, and_true] at h
  obtain ⟨x, y⟩ := a
  obtain ⟨u, v⟩ := b
  simp only at h
  congr 1 <;> omega
def enc (p : (Nat × Nat) × Nat) : List L2.Key × V := (ek p.1, .int (p.2 : Int))
def getC : List ((Nat × Nat) × Nat) → Nat × Nat → Option Nat
  | [], _ => none
  | p :: ps, k => if p.1 = k then some p.2 else getC ps k
def incC (ps : List ((Nat × Nat) × Nat)) (k : Nat × Nat) : List ((Nat × Nat) × Nat) :=
  match getC ps k with
  | some c => ps.map fun p => if p.1 = k then (p.1, c + 1) else p
  | none => ps ++ [(k, 1)]
theorem val_enc : ∀ (ps : List ((Nat × Nat) × Nat)) (k : Nat × Nat), valV (ps.map enc) (ek k) = (getC ps k).map fun c => V.int (c : Int)
  | [], _ => rfl
  | p :: ps, k => by
    rw [List.map_cons]
    by_cases e : p.1 = k
    · rw [valV_pos (show (enc p).1 = ek k by unfold enc; rw [e])]
      unfold getC
      rw [if_pos e]; rfl
    · rw [valV_neg (show ¬ (enc p).1 = ek k from fun h => e (ek_inj h)), val_enc ps k]
      conv => rhs; unfold getC
      rw [if_neg e]
theorem put_enc (ps : List ((Nat × Nat) × Nat)) (k : Nat × Nat) : putK (ps.map enc) (ek k) (V.int (((getC ps k).getD 0 + 1 : Nat) : Int)) = (incC ps k).map enc := by
  cases h : getC ps k with
  | none =>
    rw [putK_new _ (by rw [val_enc, h]; rfl)]
    unfold incC
    rw [h, List.map_append]; rfl
  | some c =>
    unfold putK
    rw [if_pos (by rw [valV_any, val_enc, h]; rfl)]
    unfold incC
    rw [h, List.map_map, List.map_map]
    refine List.map_congr_left fun p _ => ?_
    show (if (enc p).1 = ek k then ((enc p).1, V.int (((some c).getD 0 + 1 : Nat) : Int)) else enc p) = enc (if p.1 = k then (p.1, c + 1) else p)
    by_cases e : p.1 = k
    · rw [if_pos (show (enc p).1 = ek k by unfold enc; rw [e]), if_pos e]; rfl
    · rw [if_neg (show ¬ (enc p).1 = ek k from fun h => e (ek_inj h)), if_neg e]
def totC (f : Nat × Nat → Bool) (ps : List ((Nat × Nat) × Nat)) : Nat := ((ps.filter fun p => f p.1).map (·.2)).sum
theorem getC_none : ∀ {ps : List ((Nat × Nat) × Nat)} {k : Nat × Nat}, getC ps k = none → ∀ p, p ∈ ps → p.1 ≠ k
  | q :: ps, k, h, p, hp => by
    unfold getC at h
    by_cases e : q.1 = k
    · rw [if_pos e] at h; cases h
    · rw [if_neg e] at h
      rcases List.mem_cons.mp hp with z | hp
      · rw [z]; exact e
      · exact getC_none h p hp
theorem getC_at : ∀ {ps : List ((Nat × Nat) × Nat)} {i : Nat} {k : Nat × Nat} {c : Nat}, (ps.map (·.1)).Nodup → ps[i]? = some (k, c) → getC ps k = some c
  | p :: ps, 0, k, c, _, h => by
    have e : p = (k, c) := by simpa using h
    subst e
    unfold getC
    rw [if_pos rfl]
  | p :: ps, i + 1, k, c, nd, h => by
    rw [List.map_cons, List.nodup_cons] at nd
    have h' : ps[i]? = some (k, c) := by simpa using h
    have hne : ¬ p.1 = k := fun e => nd.1 (by rw [e]; exact List.mem_map.mpr ⟨(k, c), List.mem_of_getElem? h', rfl⟩)
    unfold getC
    rw [if_neg hne]
    exact getC_at nd.2 h'
theorem incC_keys (ps : List ((Nat × Nat) × Nat)) (k : Nat × Nat) (nd : (ps.map (·.1)).Nodup) : ((incC ps k).map (·.1)).Nodup := by
  unfold incC
  cases h : getC ps k with
  | none =>
    dsimp only
    rw [List.map_append]
    refine List.nodup_append.mpr ⟨nd, by simp, fun a ha b hb => ?_⟩
    obtain ⟨p, hp, rfl⟩ := List.mem_map.mp ha
    have e : b = k := by simpa using hb
    rw [e]; exact getC_none h p hp
  | some c =>
    dsimp only
    have e : (ps.map fun p => if p.1 = k then (p.1, c + 1) else p).map (·.1) = ps.map (·.1) := by
      rw [List.map_map]
      refine List.map_congr_left fun p _ => ?_
      show (if p.1 = k then (p.1, c + 1) else p).1 = p.1
      split <;> rfl
    rw [e]; exact nd
theorem tot_cons (f : Nat × Nat → Bool) (p : (Nat × Nat) × Nat) (ps : List ((Nat × Nat) × Nat)) : totC f (p :: ps) = (if f p.1 = true then p.2 else 0) + totC f ps := by
  unfold totC
  rw [List.filter_cons]
  by_cases e : f p.1 = true
  · rw [if_pos e, if_pos e, List.map_cons, List.sum_cons]
  · rw [if_neg e, if_neg e, Nat.zero_add]
theorem tot_same (f : Nat × Nat → Bool) (k : Nat × Nat) (c : Nat) : ∀ ps : List ((Nat × Nat) × Nat), (∀ p, p ∈ ps → p.1 ≠ k) → totC f (ps.map fun p => if p.1 = k then (p.1, c) else p) = totC f ps
  | [], _ => rfl
  | p :: ps, h => by
    rw [List.map_cons, if_neg (h p (List.mem_cons_self ..)), tot_cons, tot_cons, tot_same f k c ps fun q hq => h q (List.mem_cons_of_mem _ hq)]
theorem tot_map (f : Nat × Nat → Bool) (k : Nat × Nat) : ∀ (ps : List ((Nat × Nat) × Nat)) (c : Nat), getC ps k = some c → (ps.map (·.1)).Nodup → totC f (ps.map fun p => if p.1 = k then (p.1, c + 1) else p) = totC f ps + (if f k = true then 1 else 0)
  | [], _, h, _ => nomatch h
  | p :: ps, c, h, nd => by
    rw [List.map_cons, List.nodup_cons] at nd
    unfold getC at h
    rw [List.map_cons, tot_cons, tot_cons]
    by_cases e : p.1 = k
    · rw [if_pos e] at h
      cases h
      rw [if_pos e]
      rw [tot_same f k _ ps fun q hq z => nd.1 (by rw [e, ← z]; exact List.mem_map.mpr ⟨q, hq, rfl⟩)]
      dsimp only
      rw [e]
      split <;> omega
    · rw [if_neg e] at h
      rw [if_neg e, tot_map f k ps c h nd.2]; omega
theorem tot_inc (f : Nat × Nat → Bool) {ps : List ((Nat × Nat) × Nat)} (k : Nat × Nat) (nd : (ps.map (·.1)).Nodup) : totC f (incC ps k) = totC f ps + (if f k = true then 1 else 0) := by
  unfold incC
  cases h : getC ps k with
  | some c => exact tot_map f k ps c h nd
  | none =>
    dsimp only
    unfold totC
    rw [List.filter_append, List.map_append, List.sum_append]
    congr 1
    rw [List.filter_cons]
    split <;> rfl
theorem inc_len (ps : List ((Nat × Nat) × Nat)) (k : Nat × Nat) : (incC ps k).length ≤ ps.length + 1 := by
  unfold incC
  cases getC ps k with
  | some c => dsimp only; rw [List.length_map]; omega
  | none => dsimp only; rw [List.length_append]; simp
/-- the greatest numbers of runs and of writes -/
def prT (t : T) : Nat × Nat := (mx (0 :: t.rc), mx (0 :: t.wr))
def leP (r o : Nat) (p : Nat × Nat) : Bool := decide (p.1 ≤ r) && decide (p.2 ≤ o)
def runsO : List Nat := [0, 1, 2, 3, 5, 8]
def oftenO : List Nat := [0, 1, 2, 4, 7]
theorem count_all : ∀ n, n < 8 → ∀ r, r ∈ runsO → ∀ o, o ∈ oftenO → ((allS n).map prT).countP (leP r o) = nB r o n ∧ nB o r n = nB r o n := by decide +kernel
/-- what has been counted of the first j -/
def cntC (l : List (Nat × Nat)) : List ((Nat × Nat) × Nat) := l.foldl incC []
theorem cnt_snoc (l : List (Nat × Nat)) (k : Nat × Nat) : cntC (l ++ [k]) = incC (cntC l) k := by
  unfold cntC
  rw [List.foldl_append]; rfl
theorem cnt_ok (f : Nat × Nat → Bool) (l : List (Nat × Nat)) : ((cntC l).map (·.1)).Nodup ∧ totC f (cntC l) = l.countP f ∧ (cntC l).length ≤ l.length := by
  have aux : ∀ (l : List (Nat × Nat)) (ps : List ((Nat × Nat) × Nat)), (ps.map (·.1)).Nodup → ((l.foldl incC ps).map (·.1)).Nodup ∧ totC f (l.foldl incC ps) = totC f ps + l.countP f ∧ (l.foldl incC ps).length ≤ ps.length + l.length := by
    intro l
    induction l with
    | nil => intro ps nd; exact ⟨nd, by simp, by simp⟩
    | cons k l ih =>
      intro ps nd
      obtain ⟨h1, h2, h3⟩ := ih (incC ps k) (incC_keys ps k nd)
      have h4 := tot_inc f k nd
      have h5 := inc_len ps k
      refine ⟨h1, ?_, ?_⟩
      · rw [List.foldl_cons, h2, h4, List.countP_cons]; omega
      · rw [List.foldl_cons, List.length_cons]; omega
  obtain ⟨h1, h2, h3⟩ := aux l [] (by simp)
  exact ⟨h1, by have : totC f [] = 0 := rfl; unfold cntC; omega, by simpa [cntC] using h3⟩
theorem mx_of {xs : List Nat} {m : Int} (h1 : m ∈ ci xs) (h2 : ∀ y, y ∈ ci xs → y ≤ m) : m = ((mx xs : Nat) : Int) := by
  obtain ⟨x, hx, rfl⟩ := List.mem_map.mp h1
  have a := mx_mem hx
  have b : mx xs ≤ x := mx_le fun y hy => by
    have := h2 (y : Int) (List.mem_map.mpr ⟨y, hy, rfl⟩)
    omega
  omega
theorem sel_list {α β : Type} (z : α) (g : α → Bool) (h : α → β) (l : List α) : ((List.range l.length).filter fun i => g (l.getD i z)).map (fun i => h (l.getD i z)) = (l.filter g).map h := by
  have e : (List.range l.length).map (fun i => l.getD i z) = l := by
    refine List.ext_getElem? fun i => ?_
    rw [List.getElem?_map]
    by_cases hi : i < l.length
    · rw [List.getElem?_range hi, List.getElem?_eq_getElem hi]
      show some (l.getD i z) = _
      rw [List.getD_eq_getElem?_getD, List.getElem?_eq_getElem hi]; rfl
    · rw [List.getElem?_eq_none (by rw [List.length_range]; omega), List.getElem?_eq_none (by omega)]; rfl
  have h1 := List.filter_map (f := fun i => l.getD i z) (p := g) (l := List.range l.length)
  rw [e] at h1
  rw [h1, List.map_map]
  rfl
theorem rc_ints (t : T) : t.rc = (List.range t.size).map fun i => (pre t (i + 1)).runs := by
  refine List.ext_getElem? fun i => ?_
  by_cases hi : i < t.size
  · rw [pre_runs hi, List.getElem?_map, List.getElem?_range hi]; rfl
  · rw [List.getElem?_eq_none (by rw [T.rc_len]; omega), List.getElem?_eq_none (by simp; omega)]
section
variable {P : Program} {w : World} {K : PySem.W.Frag} {mg : Str → Option Value} {base : Heap}
def sp_law (K : PySem.W.Frag) : Sp := fun vs H Q _ => ∃ (a : Addr) (ns : List Int), vs = [.ref a] ∧ SqL K H a (ns.map V.int) ∧ ns.length ≤ 63 ∧ ∀ H', Q (.bl true) H'
theorem ok_law (TX : Tx K mg) : FnG P w K mg base CX0 6 TX.a_law TX.fd_law ["_law_script"] (sp_law K) := by
  refine Fun.okG TX.f_law sc_law (fun vs H Q E h => ?_) (fun cdv A hgd outer s H vs Q E hr h => ?_)
  · obtain ⟨a, ns, rfl, _⟩ := h; rfl
  · obtain ⟨a, ns, rfl, hS, hlen, q⟩ := h
    refine ⟨_, (pss_cons (ps_for PassesOwn.never rfl (pi_range1 (by rfl) TX.b_range (pa_cons pe_int pa_nil)) (pg_name (i := 1) sc_law.nd rfl (.inl rfl))
        (pss_cons (ps_set (i := 2) sc_law.nd rfl (.inr rfl) pe_dnewT)
        (pss_cons (ps_for PassesOwn.never rfl (k_piL (K := K) rfl (pe_call (ok_L_all TX) (hr.mono (by decide)) (by rfl) TX.g_L_all TX.f_L_all.kp TX.bd_L_all .nil pass0 (pa_cons (pv 1) pa_nil))) (pg_name (i := 3) sc_law.nd rfl (.inl rfl))
          (pss_cons (ps_set (i := 4) sc_law.nd rfl (.inl rfl) (pe_callB (id := "max") (cr_max rfl) (by rfl) TX.b_max (by decide +kernel) (pa_cons (pe_op op_cat (pe_lst (pa_cons pe_int pa_nil)) (pe_lc (own := [("_law_piles", 8)]) (by rfl) sc_law.nd (k_piL (K := K) rfl (pe_call (ok_L_piles TX) (hr.mono (by decide)) (by rfl) TX.g_L_piles TX.f_L_piles.kp TX.bd_L_piles .nil pass0 (pa_cons (pv 3) pa_nil))) (blkOk_by (own := [("_law_piles", 8)]) (N := N_law) (sc := defScope s_law) (by decide +kernel)) (fun _ _ _ _ _ => (pg_name (i := 8) sc_law.nd rfl (Or.inl rfl))) (fun _ _ _ _ _ => pts_nil) (fun _ _ _ _ _ => (pe_callB (id := "len") (k_len (K := K) rfl) (by rfl) TX.b_len (by decide +kernel) (pa_cons (pv 8) pa_nil))))) pa_nil)))
          (pss_cons (ps_set (i := 5) sc_law.nd rfl (.inr rfl) (pe_callB (id := "max") (cr_max rfl) (by rfl) TX.b_max (by decide +kernel) (pa_cons (pe_op op_cat (pe_lst (pa_cons pe_int pa_nil)) (pe_call (ok_L_written TX) (hr.mono (by decide)) (by rfl) TX.g_L_written TX.f_L_written.kp TX.bd_L_written .nil pass0 (pa_cons (pv 3) pa_nil))) pa_nil)))
          (pss_one (ps_dput (hu_of hr) (pv 2) (pe_tup (pa_cons (pv 4) (pa_cons (pv 5) pa_nil))) (pe_op op_add (pe_dget2 (hu_of hr) (pv 2) (pe_tup (pa_cons (pv 4) (pa_cons (pv 5) pa_nil))) pe_int ⟨by rfl, by rfl, by rfl, by rfl⟩) pe_int) (by rfl))))))
        (pss_one (ps_for PassesOwn.never rfl (k_piT (K := K) rfl (pe_tup (pa_cons pe_int (pa_cons pe_int (pa_cons pe_int (pa_cons pe_int (pa_cons pe_int (pa_cons pe_int pa_nil)))))))) (pg_name (i := 6) sc_law.nd rfl (.inr rfl))
          (pss_one (ps_for PassesOwn.never rfl (k_piT (K := K) rfl (pe_tup (pa_cons pe_int (pa_cons pe_int (pa_cons pe_int (pa_cons pe_int (pa_cons pe_int pa_nil))))))) (pg_name (i := 5) sc_law.nd rfl (.inr rfl))
            (pss_cons (ps_set (i := 7) sc_law.nd rfl (.inl rfl) (pe_callB (id := "sum") (cr_sum rfl) (by rfl) TX.b_sum (by decide +kernel) (pa_cons (pe_lock (pe_lc (own := [("_law_pair", 9)]) (by rfl) sc_law.nd (pi_keys (pv 2)) (blkOk_by (own := [("_law_pair", 9)]) (N := N_law) (sc := defScope s_law) (by decide +kernel)) (fun _ _ _ _ _ => (pg_name (i := 9) sc_law.nd rfl (Or.inl rfl))) (fun _ _ _ _ _ => (pts_one (PW.pt (pw_and (pt_cmpR op_le (pe_ix (k_ixT (K := K) rfl) (pv 9) pe_int (fun _ _ => rfl)) (pv 6) (nomark _)) (pw_and1 (pt_cmpR op_le (pe_ix (k_ixT (K := K) rfl) (pv 9) pe_int (fun _ _ => rfl)) (pv 5) (nomark _))))))) (fun _ _ _ _ _ => (pe_dget (hu_of hr) (pv 2) (pv 9) (fun _ _ => rfl))))) pa_nil)))
            (pss_one (ps_if (pt_cmpR op_ne (pe_callB (id := "repr") (call_reprD hgd hr.units) (by rfl) TX.b_repr (by decide +kernel) (pa_cons (pe_lst (pa_cons (pe_call (ok_count_within TX) (hr.mono (by decide)) (by rfl) TX.g_count_within TX.f_count_within.kp TX.bd_count_within .nil pass0 (pa_cons (pv 1) (pa_cons (pv 6) (pa_cons (pv 5) pa_nil)))) (pa_cons (pe_callK0 (ok_count_within TX) (hr.mono (by decide)) (by rfl) TX.g_count_within TX.f_count_within.kp TX.kb_count_within_c_n_k pass0 (pk_cons (pv 6) (pk_cons (pv 1) (pk_cons (pv 5) pk_nil)))) pa_nil))) pa_nil)) (pe_callB (id := "repr") (call_reprD hgd hr.units) (by rfl) TX.b_repr (by decide +kernel) (pa_cons (pe_lst (pa_cons (pv 7) (pa_cons (pv 7) pa_nil))) pa_nil)) (nomark _))
              (pss_one (ps_ret pe_bl))
              pss_nil))))))))))
      (pss_one (ps_ret pe_bl))), ?_⟩
    refine ⟨_, rfl, by decide, by decide, for_range (lo := 0) (n := 8) (fun i σ G => ∃ y1 y2 y3 y4 y5 y6 y7 y8 y9, σ = [some (.ref a), y1, y2, y3, y4, y5, y6, y7, y8, y9]) ⟨_, _, _, _, _, _, _, _, _, rfl⟩ ?_ (fun σ G _ => q G)⟩
    rintro n σ G0 hn ⟨y1, y2, y3, y4, y5, y6, y7, y8, y9, rfl⟩
    have hn8 : n < 8 := hn
    have en : (0 : Int) + (n : Nat) = (n : Int) := by omega
    rw [en]
    refine fun d nd => ?_
    have s0 := same_upd (o := .dT []) nd
    have hd0 := upd_same (H := G0) (a := d) (o := .dT [])
    generalize upd G0 d (.dT []) = G at s0 hd0 ⊢
    clear s0 nd
    have hal := allS_len (n := n) (by omega)
    refine ⟨_, rfl, n, rfl, by omega, fun G1 l us s1 hl hus => ?_⟩
    have hd1 := s1 _ _ hd0
    have hul := DpAll.len hus
    rw [List.length_map] at hul
    have h429 : ∀ n : Fin 8, (allS n.val).length ≤ 429 := by decide +kernel
    have hal2 : (allS n).length ≤ 429 := h429 ⟨n, hn8⟩
    refine ⟨l, rfl, ⟨_, .inl (.inl hl)⟩, for_list (K := K) (xs := us) (fun j σ G' => ∃ y3 y4 y5, σ = [some (.ref a), some (.int (n : Int)), some (.ref d), y3, y4, y5, y6, y7, y8, y9] ∧ (∀ u o, u ≠ d → G1 u = some o → G' u = some o) ∧ G' d = some (.dT ((cntC (((allS n).map prT).take j)).map enc))) ⟨_, _, _, rfl, fun u o _ e => e, hd1⟩ (fun j σ G' _ h => by obtain ⟨_, _, _, _, h, _⟩ := h; exact .inl (.inl (h _ _ (fun e => by rw [e, hd1] at hl; cases hl) hl))) ?_ ?_⟩
    · rintro j v σ G2 hv ⟨y3, y4, y5, rfl, b2, hd2⟩
      have k12 : Keep K G1 G2 := fun x xs e => by
        rcases e with (e | ⟨u, e⟩) | e
        · exact .inl (.inl (b2 _ _ (fun z => by rw [z, hd1] at e; cases e) e))
        · exact .inl (.inr ⟨u, b2 _ _ (fun z => by rw [z, hd1] at e; cases e) e⟩)
        · exact .inr e
      have hj : j < (allS n).length := by have := (List.getElem?_eq_some_iff.mp hv).1; omega
      have hgj := List.getElem?_eq_getElem hj
      obtain ⟨v', hv', hD⟩ := DpAll.get (DpAll.keep k12 (fun d' hd' => by obtain ⟨z, _, rfl⟩ := List.mem_map.mp hd'; exact tf_sch _) hus) (i := j) (d := dSch (allS n)[j]) (by rw [List.getElem?_map, hgj]; rfl)
      rw [hv] at hv'
      cases hv'
      obtain ⟨tb, rfl, htb⟩ := Dp.intsInv hD
      rw [← vi_ci] at htb
      have hts := allS_size n _ (List.getElem_mem hj)
      have htk : (((allS n).map prT).take (j + 1)) = (((allS n).map prT).take j) ++ [prT (allS n)[j]] := by
        rw [List.take_add_one, List.getElem?_map, hgj]; rfl
      generalize (allS n)[j] = t at htb hts htk hD
      refine ⟨sz60 (by simp), fun l1 n1 => ?_⟩
      have z1 := same_upd (o := .lst [V.int 0]) n1
      have hl1 := upd_same (H := G2) (a := l1) (o := .lst [V.int 0])
      generalize upd G2 l1 (.lst [V.int 0]) = G3 at z1 hl1 ⊢
      refine ⟨.ref tb, rfl, tb, t, rfl, Same.tup z1 htb, by omega, fun G4 Gs p s4 sG dis hDp => ?_⟩
      obtain ⟨p', xs, e, hX, hA⟩ := Dp.lstInv (Dp.same sG hDp)
      cases e
      have hxl := DpAll.len hA
      rw [dPils_len] at hxl
      refine ⟨p, rfl, ⟨_, hX⟩, fun D nD => ?_⟩
      refine lc_ints (K := K) (walk_list (xs := xs)) (ci t.rc) (by rw [ci, List.length_map, T.rc_len, hxl]) (by omega) nD (fun G s => s.seq hX) ?_ ?_ (fun x σ' H' Q Q' h => h _ _) (fun σ' H' Q Q' h => h _ _)
      · rintro i x G5 G6 hi s5 ⟨rfl, hx⟩ z hz R hR
        rw [hxl] at hi
        obtain ⟨v, g1, g2⟩ := DpAll.get (DpAll.same s5 hA) (dPils_at hi)
        rw [hx] at g1
        cases g1
        obtain ⟨b, ws, rfl, g3, g4⟩ := Dp.lstInv g2
        have hwl := DpAll.len g4
        rw [List.length_map, T.stk_len] at hwl
        rw [rc_ints, ci, List.getElem?_map, List.getElem?_map, List.getElem?_range hi] at hz
        cases hz
        have := hR G6 (Same.refl _)
        exact ⟨rfl, rfl, .ref b, rfl, b, ws, rfl, .inl g3, by rw [hwl]; exact this⟩
      intro G5 s5 hD5
      have z35 := s4.trans s5
      refine ⟨l1, D, _, _, rfl, rfl, z35 _ _ hl1, hD5, sz60 (by simp [ci, T.rc_len]; omega), fun l2 n2 => ?_⟩
      have z2 := same_upd (o := .lst ([V.int 0] ++ (ci t.rc).map V.int)) n2
      refine ⟨l2, ci (0 :: t.rc), rfl, .inl (.inl upd_same), by simp [ci], fun m hm1 hm2 => ?_⟩
      rw [mx_of hm1 hm2]
      have z26 := z1.trans (z35.trans z2)
      generalize upd G5 l2 (.lst ([V.int 0] ++ (ci t.rc).map V.int)) = G6 at z2 z26 ⊢
      -- the writes
      refine ⟨sz60 (by simp), fun l3 n3 => ?_⟩
      have z3 := same_upd (o := .lst [V.int 0]) n3
      have hl3 := upd_same (H := G6) (a := l3) (o := .lst [V.int 0])
      generalize upd G6 l3 (.lst [V.int 0]) = G7 at z3 hl3 ⊢
      refine ⟨.ref tb, rfl, tb, t, rfl, Same.tup (z26.trans z3) htb, by omega, fun G8 p8 s8 _ hp8 => ?_⟩
      refine ⟨l3, p8, _, _, rfl, rfl, s8 _ _ hl3, hp8, sz60 (by rw [vi_len, T.wr_len]; simp; omega), fun l4 n4 => ?_⟩
      have z4 := same_upd (o := .lst ([V.int 0] ++ vi t.wr)) n4
      refine ⟨l4, ci (0 :: t.wr), rfl, by rw [← vi_ci]; exact .inl (.inl upd_same), by simp [ci], fun m hm1 hm2 => ?_⟩
      rw [mx_of hm1 hm2]
      have z29 := z26.trans (z3.trans (s8.trans z4))
      generalize upd G8 l4 (.lst ([V.int 0] ++ vi t.wr)) = G9 at z4 z29 ⊢
      have hd9 := z29 _ _ hd2
      have hcl := (cnt_ok (fun _ => true) (((allS n).map prT).take j)).2.2
      have hcl2 : (cntC (((allS n).map prT).take j)).length ≤ 429 := by
        rw [List.length_take, List.length_map] at hcl; omega
      generalize hps : cntC (((allS n).map prT).take j) = ps at hd2 hd9 hcl2
      clear z1 hl1 z2 z3 z4 hl3 n1 n2 n3 n4
      -- most[deep, often] = most.get((deep, often), 0) + 1
      refine ⟨.ref d, rfl, d, rfl, .inr ⟨_, .inl hd9⟩, _, rfl, _, rfl, sz60 (by simp), fun t1 n1 => ?_⟩
      have w1 := same_upd (o := .tup [V.int ((mx (0 :: t.rc) : Nat) : Int), V.int ((mx (0 :: t.wr) : Nat) : Int)]) n1
      refine ⟨(getC ps (prT t)).map fun c => V.int (c : Int), .inr ⟨_, ek (prT t), t1, .inl (w1 _ _ hd9), rfl, upd_same, (val_enc ps (prT t)).symm⟩, ((getC ps (prT t)).getD 0 : Nat), 1, ?_, rfl, ?_⟩
      · cases getC ps (prT t) <;> rfl
      refine ⟨.ref d, rfl, _, rfl, _, rfl, sz60 (by simp), fun t2 n2 => ?_⟩
      have w2 := same_upd (o := .tup [V.int ((mx (0 :: t.rc) : Nat) : Int), V.int ((mx (0 :: t.wr) : Nat) : Int)]) n2
      have hd10 := w2 _ _ (w1 _ _ hd9)
      refine ⟨d, _, rfl, .inr ⟨_, ek (prT t), t2, hd10, rfl, upd_same, by rw [List.length_map]; exact sz61 (by omega), rfl⟩, ?_⟩
      refine ⟨_, _, _, rfl, fun u o hu e => by rw [upd_ne hu]; exact (z29.trans (w1.trans w2)) _ _ (b2 _ _ hu e), ?_⟩
      rw [upd_same, htk, cnt_snoc, hps]
      have := put_enc ps (prT t)
      have e1 : (((getC ps (prT t)).getD 0 : Nat) : Int) + 1 = (((getC ps (prT t)).getD 0 + 1 : Nat) : Int) := by omega
      dsimp only
      rw [e1, this]
    rintro σ G2 ⟨y3, y4, y5, rfl, b2, hd2⟩
    rw [hul, show (((allS n).map prT).take (allS n).length) = (allS n).map prT from List.take_of_length_le (by rw [List.length_map]; omega)] at hd2
    have hcnt := fun f => cnt_ok f ((allS n).map prT)
    have hpl : (cntC ((allS n).map prT)).length ≤ 429 := by
      have := (hcnt fun _ => true).2.2
      rw [List.length_map] at this; omega
    generalize cntC ((allS n).map prT) = ps at hd2 hcnt hpl
    refine ⟨sz60 (by simp), fun t1 n1 => ⟨t1, rfl, ⟨_, .inl (.inl upd_same)⟩, for_tup (K := K) (xs := runsO.map fun r => V.int ((r : Nat) : Int)) (fun i σ G => ∃ y5 y6 y7, σ = [some (.ref a), some (.int (n : Int)), some (.ref d), y3, y4, y5, y6, y7, y8, y9] ∧ Same (upd G2 t1 (.tup (runsO.map fun r => V.int ((r : Nat) : Int)))) G) ⟨_, _, _, rfl, .refl _⟩ (fun i σ G _ h => by obtain ⟨_, _, _, _, h⟩ := h; exact .inl (.inl (h _ _ upd_same))) ?_ ?_⟩⟩
    rotate_left
    · rintro σ G ⟨y5, y6, y7, rfl, _⟩
      exact ⟨_, _, _, _, _, _, _, _, _, rfl⟩
    have hd3 := same_upd (o := .tup (runsO.map fun r => V.int ((r : Nat) : Int))) n1 _ _ hd2
    generalize upd G2 t1 (.tup (runsO.map fun r => V.int ((r : Nat) : Int))) = G3 at hd3 ⊢
    rintro i x σ G4 hx ⟨y5, y6, y7, rfl, s4⟩
    rw [List.getElem?_map] at hx
    obtain ⟨r, hr1, rfl⟩ := Option.map_eq_some_iff.mp hx
    have hrm := List.mem_of_getElem? hr1
    have hr60 : r ≤ 60 := by
      simp only [runsO, List.mem_cons, List.not_mem_nil, or_false] at hrm
      omega
    refine ⟨sz60 (by simp), fun t2 n2 => ⟨t2, rfl, ⟨_, .inl (.inl upd_same)⟩, for_tup (K := K) (xs := oftenO.map fun r => V.int ((r : Nat) : Int)) (fun i σ G => ∃ y5 y7, σ = [some (.ref a), some (.int (n : Int)), some (.ref d), y3, y4, y5, some (.int (r : Int)), y7, y8, y9] ∧ Same (upd G4 t2 (.tup (oftenO.map fun r => V.int ((r : Nat) : Int)))) G) ⟨_, _, rfl, .refl _⟩ (fun i σ G _ h => by obtain ⟨_, _, _, h⟩ := h; exact .inl (.inl (h _ _ upd_same))) ?_ ?_⟩⟩
    rotate_left
    · rintro σ G ⟨y5, y7, rfl, s5⟩
      exact ⟨_, _, _, rfl, s4.trans ((same_upd n2).trans s5)⟩
    have hd5 := same_upd (o := .tup (oftenO.map fun r => V.int ((r : Nat) : Int))) n2 _ _ (s4 _ _ hd3)
    generalize upd G4 t2 (.tup (oftenO.map fun r => V.int ((r : Nat) : Int))) = G5 at hd5 ⊢
    rintro j x σ G6 hx ⟨y5, y7, rfl, s6⟩
    rw [List.getElem?_map] at hx
    obtain ⟨w', hw1, rfl⟩ := Option.map_eq_some_iff.mp hx
    have hwm := List.mem_of_getElem? hw1
    have hw60 : w' ≤ 60 := by
      simp only [oftenO, List.mem_cons, List.not_mem_nil, or_false] at hwm
      omega
    have hd6 := s6 _ _ hd5
    obtain ⟨f1, f2⟩ := count_all n hn8 r hrm w' hwm
    have htot := (hcnt (leP r w')).2.1
    rw [f1] at htot
    -- the sum over the pairs
    refine ⟨d, .dT (ps.map enc), hd6, trivial, fun od => ⟨.ref d, rfl, d, od, rfl, .inr ⟨ps.map enc, upd_same, fun D nD => ?_⟩⟩⟩
    have hDd : D ≠ d := fun e => by rw [e, upd_same] at nD; cases nD
    have z0 : (Nat × Nat) × Nat := ((0, 0), 0)
    refine lc_sel (K := K) (walk_keysT (d := d) (o := od) (kvs := ps.map enc)) (fun i => leP r w' (ps.getD i z0).1) (fun i => .int ((ps.getD i z0).2 : Int)) (fun _ _ => .int _) (by rw [List.length_map]; omega) nD (fun G s => s _ _ upd_same) ?_ ?_ (fun x σ' H' Q Q' h => h _ _) (fun σ' H' Q Q' h e => ?_)
    · rintro i x G7 G8 hi s7 ⟨rfl, k, v, q', hkv, rfl, hq'⟩ R hR
      rw [List.length_map] at hi
      have hgi := List.getElem?_eq_getElem hi
      have eD : ps.getD i z0 = ps[i] := by rw [List.getD_eq_getElem?_getD, hgi]; rfl
      rw [List.getElem?_map, hgi] at hkv
      cases hkv
      have hat := getC_at (hcnt fun _ => true).1 (i := i) (k := ps[i].1) (c := ps[i].2) hgi
      rw [eD] at hR ⊢
      generalize ps[i] = pp at hat hR hq' hgi ⊢
      obtain ⟨⟨p1, p2⟩, p3⟩ := pp
      have hqt : SqT K G8 q' [V.int (p1 : Int), V.int (p2 : Int)] := .inl (.inl hq')
      refine ⟨rfl, .ref q', rfl, q', _, _, _, rfl, rfl, hqt, rfl, _, rfl, _, _, rfl, rfl, _, rfl, ?_⟩
      have eL : leP r w' (p1, p2) = (decide (p1 ≤ r) && decide (p2 ≤ w')) := rfl
      by_cases h1 : p1 ≤ r
      · refine decT (by omega) ⟨.ref q', rfl, q', _, _, _, rfl, rfl, hqt, rfl, _, rfl, _, _, rfl, rfl, _, rfl, ?_, .refl _, fun _ => ?_⟩
        · rw [eL, decide_eq_true h1, Bool.true_and]
          by_cases h2 : p2 ≤ w'
          · rw [decide_eq_true h2, decide_eq_true (by omega)]
          · rw [decide_eq_false h2, decide_eq_false (by omega)]
        · exact ⟨.ref d, rfl, .ref q', rfl, d, .int (p3 : Int), rfl, .inr ⟨ps.map enc, ek (p1, p2), q', .inr ⟨od, s7 _ _ upd_same⟩, rfl, hq', by rw [val_enc, hat]; rfl⟩, hR _ _ (Same.refl _) (.int _)⟩
      · refine decF (by omega) ⟨?_, .refl _, fun z => nomatch z⟩
        rw [eL, decide_eq_false h1, Bool.false_and]
    · intro G7 acc s7 hD7 hA7
      rw [List.length_map] at hA7
      have eI : (List.filter (fun i => leP r w' (ps.getD i z0).1) (List.range ps.length)).map (fun i => PyData.int ((ps.getD i z0).2 : Int)) = (ci ((ps.filter fun p => leP r w' p.1).map (·.2))).map PyData.int := by
        have := sel_list z0 (fun p : (Nat × Nat) × Nat => leP r w' p.1) (fun p => PyData.int (p.2 : Int)) ps
        rw [this, ci, List.map_map, List.map_map]; rfl
      rw [eI] at hA7
      have eA := dp_ints_inv hA7
      rw [eA] at hD7
      have s67 : Same G6 (upd G7 d (.dT (ps.map enc))) := fun u o e => by
        by_cases h : u = d
        · rw [h] at e ⊢; rw [upd_same, ← hd6, e]
        · rw [upd_ne h]; exact s7 _ _ (by rw [upd_ne h]; exact e)
      refine ⟨s7 _ _ upd_same, D, _, rfl, .inl (.inl (by rw [upd_ne hDd]; exact hD7)), ?_⟩
      rw [ci_sum]
      have eS : ((ps.filter fun p => leP r w' p.1).map (·.2)).sum = nB r w' n := htot
      rw [eS]
      generalize upd G7 d (.dT (ps.map enc)) = G8 at s67 ⊢
      have hsmall : nB r w' n < 1000000 := by
        rw [← f1]
        have := List.countP_le_length (p := leP r w') (l := (allS n).map prT)
        rw [List.length_map] at this
        omega
      have hR : Rp 1 4 (.list [.int (nB r w' n : Int), .int (nB r w' n : Int)]) := Rp.lst (n := 0) (fun d hd => by
        simp only [List.mem_cons, List.not_mem_nil, or_false, or_self] at hd
        rw [hd]; exact Rp.int (by omega)) (by simp)
      refine ⟨_, rfl, _, rfl, _, rfl, n, r, w', rfl, by omega, hr60, hw60, fun H1 e1 => ?_⟩
      refine ⟨_, rfl, _, rfl, _, rfl, n, w', r, rfl, by omega, hw60, hr60, fun H2 e2 => ⟨sz60 (by simp), fun l1 n1 => ?_⟩⟩
      rw [f2]
      obtain ⟨r1, r2, r3, r4⟩ := hR.all (by decide) (by decide)
      refine ⟨.ref l1, _, rfl, .lst (.inl (.inl upd_same)) (.cons (.int _) (.cons (.int _) .nil)), r1, r2, r3, r4, ?_⟩
      refine ⟨_, rfl, _, rfl, sz60 (by simp), fun l2 n2 => ⟨.ref l2, _, rfl, .lst (.inl (.inl upd_same)) (.cons (.int _) (.cons (.int _) .nil)), r1, r2, r3, r4, ?_⟩⟩
      refine ⟨rfl, false, by simp, iteF ?_⟩
      exact ⟨_, _, rfl, s6.trans (s67.trans (e1.trans (e2.trans ((same_upd n1).trans (same_upd n2)))))⟩
    · obtain ⟨v1, e1, p1, x1, i1, z1, a1, a2, a3, a4, v2, e2, i2, j2, b1, b2', c, b3, e⟩ := e
      refine ⟨v1, e1, p1, x1, i1, z1, a1, a2, a3, a4, v2, e2, i2, j2, b1, b2', c, b3, ?_⟩
      by_cases hc : c = true
      · rw [if_pos hc] at e ⊢
        obtain ⟨v1, e1, p1, x1, i1, z1, a1, a2, a3, a4, v2, e2, i2, j2, b1, b2', c, b3, e⟩ := e
        exact ⟨v1, e1, p1, x1, i1, z1, a1, a2, a3, a4, v2, e2, i2, j2, b1, b2', c, b3, h _ _ e⟩
      · rw [if_neg hc] at e ⊢
        exact h _ _ e
end
theorem all_mk {l : PySem.W.OpenLaw} {w : World} {K : PySem.W.Frag} {h : Heap} {mg : Str → Option Value} {fa : Addr} (X : K.In h) (G : h.Ns mainGlobals mg) (hfa : mg "law" = some (.ref fa))
    {f_is_int : Addr} {od_is_int an_is_int : Option Addr} {sl_is_int : Array (Option Value)} {oc_is_int kV_is_int dc_is_int pm_is_int cd_is_int ct_is_int : Value}
    (a_is_int : PySem.W.nsIn K mainGlobals "is_int" = some (some (.ref f_is_int))) (l_is_int : K.lookup f_is_int = some ⟨oc_is_int, od_is_int, .func (PySem.W.fnOf "is_int" "is_int" (defArgs s_is_int) (defBody s_is_int) (defScope s_is_int) .none kV_is_int dc_is_int pm_is_int an_is_int cd_is_int ct_is_int), sl_is_int⟩) (c_is_int : PySem.W.codeIn K cd_is_int "is_int" = true) (k_is_int : PySem.W.keepIn K (.ref f_is_int) = true)
    {f_is_count : Addr} {od_is_count an_is_count : Option Addr} {sl_is_count : Array (Option Value)} {oc_is_count kV_is_count dc_is_count pm_is_count cd_is_count ct_is_count : Value}
    (a_is_count : PySem.W.nsIn K mainGlobals "is_count" = some (some (.ref f_is_count))) (l_is_count : K.lookup f_is_count = some ⟨oc_is_count, od_is_count, .func (PySem.W.fnOf "is_count" "is_count" (defArgs s_is_count) (defBody s_is_count) (defScope s_is_count) .none kV_is_count dc_is_count pm_is_count an_is_count cd_is_count ct_is_count), sl_is_count⟩) (c_is_count : PySem.W.codeIn K cd_is_count "is_count" = true) (k_is_count : PySem.W.keepIn K (.ref f_is_count) = true)
    {f_is_count_up_to : Addr} {od_is_count_up_to an_is_count_up_to : Option Addr} {sl_is_count_up_to : Array (Option Value)} {oc_is_count_up_to kV_is_count_up_to dc_is_count_up_to pm_is_count_up_to cd_is_count_up_to ct_is_count_up_to : Value}
    (a_is_count_up_to : PySem.W.nsIn K mainGlobals "is_count_up_to" = some (some (.ref f_is_count_up_to))) (l_is_count_up_to : K.lookup f_is_count_up_to = some ⟨oc_is_count_up_to, od_is_count_up_to, .func (PySem.W.fnOf "is_count_up_to" "is_count_up_to" (defArgs s_is_count_up_to) (defBody s_is_count_up_to) (defScope s_is_count_up_to) .none kV_is_count_up_to dc_is_count_up_to pm_is_count_up_to an_is_count_up_to cd_is_count_up_to ct_is_count_up_to), sl_is_count_up_to⟩) (c_is_count_up_to : PySem.W.codeIn K cd_is_count_up_to "is_count_up_to" = true) (k_is_count_up_to : PySem.W.keepIn K (.ref f_is_count_up_to) = true)
    {f_check_budgets : Addr} {od_check_budgets an_check_budgets : Option Addr} {sl_check_budgets : Array (Option Value)} {oc_check_budgets kV_check_budgets dc_check_budgets pm_check_budgets cd_check_budgets ct_check_budgets : Value}
    (a_check_budgets : PySem.W.nsIn K mainGlobals "check_budgets" = some (some (.ref f_check_budgets))) (l_check_budgets : K.lookup f_check_budgets = some ⟨oc_check_budgets, od_check_budgets, .func (PySem.W.fnOf "check_budgets" "check_budgets" (defArgs s_check_budgets) (defBody s_check_budgets) (defScope s_check_budgets) .none kV_check_budgets dc_check_budgets pm_check_budgets an_check_budgets cd_check_budgets ct_check_budgets), sl_check_budgets⟩) (c_check_budgets : PySem.W.codeIn K cd_check_budgets "check_budgets" = true) (k_check_budgets : PySem.W.keepIn K (.ref f_check_budgets) = true)
    {f_check_flushes : Addr} {od_check_flushes an_check_flushes : Option Addr} {sl_check_flushes : Array (Option Value)} {oc_check_flushes kV_check_flushes dc_check_flushes pm_check_flushes cd_check_flushes ct_check_flushes : Value}
    (a_check_flushes : PySem.W.nsIn K mainGlobals "check_flushes" = some (some (.ref f_check_flushes))) (l_check_flushes : K.lookup f_check_flushes = some ⟨oc_check_flushes, od_check_flushes, .func (PySem.W.fnOf "check_flushes" "check_flushes" (defArgs s_check_flushes) (defBody s_check_flushes) (defScope s_check_flushes) .none kV_check_flushes dc_check_flushes pm_check_flushes an_check_flushes cd_check_flushes ct_check_flushes), sl_check_flushes⟩) (c_check_flushes : PySem.W.codeIn K cd_check_flushes "check_flushes" = true) (k_check_flushes : PySem.W.keepIn K (.ref f_check_flushes) = true)
    {f_count_within : Addr} {od_count_within an_count_within : Option Addr} {sl_count_within : Array (Option Value)} {oc_count_within kV_count_within dc_count_within pm_count_within cd_count_within ct_count_within : Value}
    (a_count_within : PySem.W.nsIn K mainGlobals "count_within" = some (some (.ref f_count_within))) (l_count_within : K.lookup f_count_within = some ⟨oc_count_within, od_count_within, .func (PySem.W.fnOf "count_within" "count_within" (defArgs s_count_within) (defBody s_count_within) (defScope s_count_within) .none kV_count_within dc_count_within pm_count_within an_count_within cd_count_within ct_count_within), sl_count_within⟩) (c_count_within : PySem.W.codeIn K cd_count_within "count_within" = true) (k_count_within : PySem.W.keepIn K (.ref f_count_within) = true)
    {f_counts_within : Addr} {od_counts_within an_counts_within : Option Addr} {sl_counts_within : Array (Option Value)} {oc_counts_within kV_counts_within dc_counts_within pm_counts_within cd_counts_within ct_counts_within : Value}
    (a_counts_within : PySem.W.nsIn K mainGlobals "counts_within" = some (some (.ref f_counts_within))) (l_counts_within : K.lookup f_counts_within = some ⟨oc_counts_within, od_counts_within, .func (PySem.W.fnOf "counts_within" "counts_within" (defArgs s_counts_within) (defBody s_counts_within) (defScope s_counts_within) .none kV_counts_within dc_counts_within pm_counts_within an_counts_within cd_counts_within ct_counts_within), sl_counts_within⟩) (c_counts_within : PySem.W.codeIn K cd_counts_within "counts_within" = true) (k_counts_within : PySem.W.keepIn K (.ref f_counts_within) = true)
    {f_counts_by_size : Addr} {od_counts_by_size an_counts_by_size : Option Addr} {sl_counts_by_size : Array (Option Value)} {oc_counts_by_size kV_counts_by_size dc_counts_by_size pm_counts_by_size cd_counts_by_size ct_counts_by_size : Value}
    (a_counts_by_size : PySem.W.nsIn K mainGlobals "counts_by_size" = some (some (.ref f_counts_by_size))) (l_counts_by_size : K.lookup f_counts_by_size = some ⟨oc_counts_by_size, od_counts_by_size, .func (PySem.W.fnOf "counts_by_size" "counts_by_size" (defArgs s_counts_by_size) (defBody s_counts_by_size) (defScope s_counts_by_size) .none kV_counts_by_size dc_counts_by_size pm_counts_by_size an_counts_by_size cd_counts_by_size ct_counts_by_size), sl_counts_by_size⟩) (c_counts_by_size : PySem.W.codeIn K cd_counts_by_size "counts_by_size" = true) (k_counts_by_size : PySem.W.keepIn K (.ref f_counts_by_size) = true)
    {f_L_piles : Addr} {od_L_piles an_L_piles : Option Addr} {sl_L_piles : Array (Option Value)} {oc_L_piles kV_L_piles dc_L_piles pm_L_piles cd_L_piles ct_L_piles : Value}
    (a_L_piles : PySem.W.nsIn K mainGlobals "_law_sched_piles" = some (some (.ref f_L_piles))) (l_L_piles : K.lookup f_L_piles = some ⟨oc_L_piles, od_L_piles, .func (PySem.W.fnOf "_law_sched_piles" "_law_sched_piles" (defArgs s_L_piles) (defBody s_L_piles) (defScope s_L_piles) .none kV_L_piles dc_L_piles pm_L_piles an_L_piles cd_L_piles ct_L_piles), sl_L_piles⟩) (c_L_piles : PySem.W.codeIn K cd_L_piles "_law_sched_piles" = true) (k_L_piles : PySem.W.keepIn K (.ref f_L_piles) = true)
    {f_L_written : Addr} {od_L_written an_L_written : Option Addr} {sl_L_written : Array (Option Value)} {oc_L_written kV_L_written dc_L_written pm_L_written cd_L_written ct_L_written : Value}
    (a_L_written : PySem.W.nsIn K mainGlobals "_law_sched_written" = some (some (.ref f_L_written))) (l_L_written : K.lookup f_L_written = some ⟨oc_L_written, od_L_written, .func (PySem.W.fnOf "_law_sched_written" "_law_sched_written" (defArgs s_L_written) (defBody s_L_written) (defScope s_L_written) .none kV_L_written dc_L_written pm_L_written an_L_written cd_L_written ct_L_written), sl_L_written⟩) (c_L_written : PySem.W.codeIn K cd_L_written "_law_sched_written" = true) (k_L_written : PySem.W.keepIn K (.ref f_L_written) = true)
    {f_L_all : Addr} {od_L_all an_L_all : Option Addr} {sl_L_all : Array (Option Value)} {oc_L_all kV_L_all dc_L_all pm_L_all cd_L_all ct_L_all : Value}
    (a_L_all : PySem.W.nsIn K mainGlobals "_law_sched_all" = some (some (.ref f_L_all))) (l_L_all : K.lookup f_L_all = some ⟨oc_L_all, od_L_all, .func (PySem.W.fnOf "_law_sched_all" "_law_sched_all" (defArgs s_L_all) (defBody s_L_all) (defScope s_L_all) .none kV_L_all dc_L_all pm_L_all an_L_all cd_L_all ct_L_all), sl_L_all⟩) (c_L_all : PySem.W.codeIn K cd_L_all "_law_sched_all" = true) (k_L_all : PySem.W.keepIn K (.ref f_L_all) = true)
    {f_law : Addr} {od_law an_law : Option Addr} {sl_law : Array (Option Value)} {oc_law kV_law dc_law pm_law cd_law ct_law : Value}
    (a_law : PySem.W.nsIn K mainGlobals "law" = some (some (.ref f_law))) (l_law : K.lookup f_law = some ⟨oc_law, od_law, .func (PySem.W.fnOf "law" "law" (defArgs s_law) (defBody s_law) (defScope s_law) .none kV_law dc_law pm_law an_law cd_law ct_law), sl_law⟩) (c_law : PySem.W.codeIn K cd_law "law" = true) (k_law : PySem.W.keepIn K (.ref f_law) = true)
    (z_isinstance : PySem.W.nsIn K mainGlobals "isinstance" = some none)
    (z_int : PySem.W.nsIn K mainGlobals "int" = some none)
    (z_bool : PySem.W.nsIn K mainGlobals "bool" = some none)
    (z_range : PySem.W.nsIn K mainGlobals "range" = some none)
    (z_max : PySem.W.nsIn K mainGlobals "max" = some none)
    (z_len : PySem.W.nsIn K mainGlobals "len" = some none)
    (z_sum : PySem.W.nsIn K mainGlobals "sum" = some none)
    (z_zip : PySem.W.nsIn K mainGlobals "zip" = some none)
    (z_enumerate : PySem.W.nsIn K mainGlobals "enumerate" = some none)
    (z_list : PySem.W.nsIn K mainGlobals "list" = some none)
    (z_repr : PySem.W.nsIn K mainGlobals "repr" = some none)
    {t_MOST_BUDGET : Tok} (y_MOST_BUDGET : PySem.W.nsIn K mainGlobals "MOST_BUDGET" = some (some (.int (60) t_MOST_BUDGET)))
    {t_MOST_FLUSHES : Tok} (y_MOST_FLUSHES : PySem.W.nsIn K mainGlobals "MOST_FLUSHES" = some (some (.int (60) t_MOST_FLUSHES)))
    : ∃ fd : FuncData, (∀ (s : Shared) (v : Value), BindsTo s fd ⟨[v], []⟩ [("_law_script", v)]) ∧ ∀ base : Heap, K.In base → base.Ns mainGlobals mg → FnG l.prog w K mg base CX0 6 fa fd ["_law_script"] (sp_law K) := by
  have e := hfa.symm.trans (PySem.W.mg_of X G a_law)
  cases e
  have F_is_int := fun_mk (st := s_is_int) l_is_int c_is_int k_is_int
  have B_is_int := F_is_int.binds (ps := ["value"]) fun _ _ _ _ _ _ us hl => match us, hl with | [_], _ => rfl
  have F_is_count := fun_mk (st := s_is_count) l_is_count c_is_count k_is_count
  have B_is_count := F_is_count.binds (ps := ["value"]) fun _ _ _ _ _ _ us hl => match us, hl with | [_], _ => rfl
  have F_is_count_up_to := fun_mk (st := s_is_count_up_to) l_is_count_up_to c_is_count_up_to k_is_count_up_to
  have B_is_count_up_to := F_is_count_up_to.binds (ps := ["value", "most"]) fun _ _ _ _ _ _ us hl => match us, hl with | [_, _], _ => rfl
  have F_check_budgets := fun_mk (st := s_check_budgets) l_check_budgets c_check_budgets k_check_budgets
  have B_check_budgets := F_check_budgets.binds (ps := ["k", "c", "most"]) fun _ _ _ _ _ _ us hl => match us, hl with | [_, _, _], _ => rfl
  have F_check_flushes := fun_mk (st := s_check_flushes) l_check_flushes c_check_flushes k_check_flushes
  have B_check_flushes := F_check_flushes.binds (ps := ["n"]) fun _ _ _ _ _ _ us hl => match us, hl with | [_], _ => rfl
  have F_count_within := fun_mk (st := s_count_within) l_count_within c_count_within k_count_within
  have B_count_within := F_count_within.binds (ps := ["n", "k", "c"]) fun _ _ _ _ _ _ us hl => match us, hl with | [_, _, _], _ => rfl
  have KB_count_within_c_n_k := kbP (ps := ["n", "k", "c"]) (ks := ["c", "n", "k"]) (idx := [1, 2, 0]) F_count_within rfl rfl (by decide) (by decide) fun _ _ _ _ _ _ ws hl => match ws, hl with | [_, _, _], _ => rfl
  have F_counts_within := fun_mk (st := s_counts_within) l_counts_within c_counts_within k_counts_within
  have B_counts_within := F_counts_within.binds (ps := ["n", "k", "c"]) fun _ _ _ _ _ _ us hl => match us, hl with | [_, _, _], _ => rfl
  have F_counts_by_size := fun_mk (st := s_counts_by_size) l_counts_by_size c_counts_by_size k_counts_by_size
  have B_counts_by_size := F_counts_by_size.binds (ps := ["lefts", "rights"]) fun _ _ _ _ _ _ us hl => match us, hl with | [_, _], _ => rfl
  have F_L_piles := fun_mk (st := s_L_piles) l_L_piles c_L_piles k_L_piles
  have B_L_piles := F_L_piles.binds (ps := ["_law_plan"]) fun _ _ _ _ _ _ us hl => match us, hl with | [_], _ => rfl
  have F_L_written := fun_mk (st := s_L_written) l_L_written c_L_written k_L_written
  have B_L_written := F_L_written.binds (ps := ["_law_plan"]) fun _ _ _ _ _ _ us hl => match us, hl with | [_], _ => rfl
  have F_L_all := fun_mk (st := s_L_all) l_L_all c_L_all k_L_all
  have B_L_all := F_L_all.binds (ps := ["_law_size"]) fun _ _ _ _ _ _ us hl => match us, hl with | [_], _ => rfl
  have F_law := fun_mk (st := s_law) l_law c_law k_law
  have B_law := F_law.binds (ps := ["_law_script"]) fun _ _ _ _ _ _ us hl => match us, hl with | [_], _ => rfl
  let TX : Tx K mg := ⟨_, _, F_is_int, PySem.W.mg_of X G a_is_int, B_is_int, _, _, F_is_count, PySem.W.mg_of X G a_is_count, B_is_count, _, _, F_is_count_up_to, PySem.W.mg_of X G a_is_count_up_to, B_is_count_up_to, _, _, F_check_budgets, PySem.W.mg_of X G a_check_budgets, B_check_budgets, _, _, F_check_flushes, PySem.W.mg_of X G a_check_flushes, B_check_flushes, _, _, F_count_within, PySem.W.mg_of X G a_count_within, B_count_within, KB_count_within_c_n_k, _, _, F_counts_within, PySem.W.mg_of X G a_counts_within, B_counts_within, _, _, F_counts_by_size, PySem.W.mg_of X G a_counts_by_size, B_counts_by_size, _, _, F_L_piles, PySem.W.mg_of X G a_L_piles, B_L_piles, _, _, F_L_written, PySem.W.mg_of X G a_L_written, B_L_written, _, _, F_L_all, PySem.W.mg_of X G a_L_all, B_L_all, _, _, F_law, PySem.W.mg_of X G a_law, B_law, PySem.W.mg_none_of X G z_isinstance, PySem.W.mg_none_of X G z_int, PySem.W.mg_none_of X G z_bool, PySem.W.mg_none_of X G z_range, PySem.W.mg_none_of X G z_max, PySem.W.mg_none_of X G z_len, PySem.W.mg_none_of X G z_sum, PySem.W.mg_none_of X G z_zip, PySem.W.mg_none_of X G z_enumerate, PySem.W.mg_none_of X G z_list, PySem.W.mg_none_of X G z_repr, _, PySem.W.mg_of X G y_MOST_BUDGET, _, PySem.W.mg_of X G y_MOST_FLUSHES⟩
  exact ⟨TX.fd_law, fun s v => .of_eq rfl, fun base _ _ => ok_law TX⟩
end MB
open PySem PySem.W PyProof.Rows
set_option maxHeartbeats 0 in
theorem PySem.Challenge.cw_mergebudget_k11_schedules_counted_within_holds : PySem.Challenge.rw_mergebudget_k11_schedules_counted_within.Holds := by
  w_on; o_law; k_head; (case hw => w_witness2)
  k_fill
  refine MB.walk_ofG (l := PySem.Challenge.rw_mergebudget_k11_schedules_counted_within) (n := 63) (k := 6) (x := "_law_script") (sp := MB.sp_law) rfl (by decide) rfl ⟨rfl, by decide, by decide⟩ (fun w h Y => PySem.W.kIn_of Y) ?F (fun _ _ a ns hl hS => ⟨a, ns, rfl, hS, hl, fun _ => rfl⟩)
  case F =>
    intro w mg fa h KX G hmg
    refine' MB.all_mk KX G hmg ?a_is_int ?l_is_int ?c_is_int ?k_is_int ?a_is_count ?l_is_count ?c_is_count ?k_is_count ?a_is_count_up_to ?l_is_count_up_to ?c_is_count_up_to ?k_is_count_up_to ?a_check_budgets ?l_check_budgets ?c_check_budgets ?k_check_budgets ?a_check_flushes ?l_check_flushes ?c_check_flushes ?k_check_flushes ?a_count_within ?l_count_within ?c_count_within ?k_count_within ?a_counts_within ?l_counts_within ?c_counts_within ?k_counts_within ?a_counts_by_size ?l_counts_by_size ?c_counts_by_size ?k_counts_by_size ?a_L_piles ?l_L_piles ?c_L_piles ?k_L_piles ?a_L_written ?l_L_written ?c_L_written ?k_L_written ?a_L_all ?l_L_all ?c_L_all ?k_L_all ?a_law ?l_law ?c_law ?k_law ?z_isinstance ?z_int ?z_bool ?z_range ?z_max ?z_len ?z_sum ?z_zip ?z_enumerate ?z_list ?z_repr ?y_MOST_BUDGET ?y_MOST_FLUSHES
    (case a_is_int => k_is); (case l_is_int => k_is); (case c_is_int => k_is); (case k_is_int => k_is); (case a_is_count => k_is); (case l_is_count => k_is); (case c_is_count => k_is); (case k_is_count => k_is); (case a_is_count_up_to => k_is); (case l_is_count_up_to => k_is); (case c_is_count_up_to => k_is); (case k_is_count_up_to => k_is); (case a_check_budgets => k_is); (case l_check_budgets => k_is); (case c_check_budgets => k_is); (case k_check_budgets => k_is); (case a_check_flushes => k_is); (case l_check_flushes => k_is); (case c_check_flushes => k_is); (case k_check_flushes => k_is); (case a_count_within => k_is); (case l_count_within => k_is); (case c_count_within => k_is); (case k_count_within => k_is); (case a_counts_within => k_is); (case l_counts_within => k_is); (case c_counts_within => k_is); (case k_counts_within => k_is); (case a_counts_by_size => k_is); (case l_counts_by_size => k_is); (case c_counts_by_size => k_is); (case k_counts_by_size => k_is); (case a_L_piles => k_is); (case l_L_piles => k_is); (case c_L_piles => k_is); (case k_L_piles => k_is); (case a_L_written => k_is); (case l_L_written => k_is); (case c_L_written => k_is); (case k_L_written => k_is); (case a_L_all => k_is); (case l_L_all => k_is); (case c_L_all => k_is); (case k_L_all => k_is); (case a_law => k_is); (case l_law => k_is); (case c_law => k_is); (case k_law => k_is); (case z_isinstance => k_is); (case z_int => k_is); (case z_bool => k_is); (case z_range => k_is); (case z_max => k_is); (case z_len => k_is); (case z_sum => k_is); (case z_zip => k_is); (case z_enumerate => k_is); (case z_list => k_is); (case z_repr => k_is); (case y_MOST_BUDGET => k_is); (case y_MOST_FLUSHES => k_is)
