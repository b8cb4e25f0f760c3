import PyProof.Rows.All
import Wide.All
import OpenK.AllK
import Wide.FinOn
import HandS.ForMost
import HandS.IsInst
import HandS.Wide
import HandS.TupAny
import HandS.TupMul
import HandS.Rev
import HandS.Style
import HandS.Strs
import HandS.Walk
import KE.GoesEnum
import PyProof.ReprRoads
import PyProof.ReprBulk
import HandS.WideMore
import HandS.WideBits
import HandS.Conv
import HandS.SortKw
import HandS.SortInts
import KE.DataMinMax
import KE.DatumOrd
import HandS.RevRange
import HandS.Zip
import KE.GoesZip
import KE.GoesMore
import HandS.List
import HandS.Defaults
import HandS.MakeKwOnly
import HandS.Iter
import HandS.WrittenGet
import PySem.Challenge.RW_mergebudget_k95_whole_time_reversed
set_option Elab.async false
set_option linter.all false
set_option maxRecDepth 100000
namespace MB
inductive T where
  | nil
  | node (l r : T)
  deriving DecidableEq

namespace T
def size : T → Nat
  | nil => 0
  | node l r => l.size + 1 + r.size
def runs : T → Nat
  | nil => 0
  | node _ r => 1 + r.runs
def sch : T → List Nat
  | nil => []
  | node l r => l.sch ++ l.runs :: r.sch
def rc : T → List Nat
  | nil => []
  | node l r => l.rc ++ 1 :: r.rc.map (· + 1)
def wr : T → List Nat
  | nil => []
  | node l r => l.wr.map (· + 1) ++ 1 :: r.wr
/-- parents: off, the number of the first node; p, the parent of the root -/
def par (off p : Int) : T → List Int
  | nil => []
  | node l r => par off (off + l.size) l ++ p :: par (off + l.size + 1) (off + l.size) r
def mir : T → T
  | nil => nil
  | node l r => node r.mir l.mir
def push (t : T) (m : Nat) : T :=
  if m = t.runs then node t nil else match t with
    | nil => nil
    | node l r => node l (push r m)
/-- the first flush of the run that a flush that merges m writes -/
def start (t : T) (m : Nat) : Nat :=
  if m = t.runs then 0 else match t with
    | nil => 0
    | node l r => l.size + 1 + start r m
/-- the stack: intervals of the right spine -/
def stk (off : Nat) : T → List (Nat × Nat)
  | nil => []
  | node l r => (off, off + l.size + 1) :: stk (off + l.size + 1) r
def graft : T → T → T
  | nil, t => t
  | node l r, t => node l (graft r t)

theorem sch_len : ∀ t : T, t.sch.length = t.size
  | nil => rfl
  | node l r => by simp [sch, size, sch_len l, sch_len r]; omega
theorem rc_len : ∀ t : T, t.rc.length = t.size
  | nil => rfl
  | node l r => by simp [rc, size, rc_len l, rc_len r]; omega
theorem wr_len : ∀ t : T, t.wr.length = t.size
  | nil => rfl
  | node l r => by simp [wr, size, wr_len l, wr_len r]; omega
theorem par_len : ∀ (t : T) (off p : Int), (t.par off p).length = t.size
  | nil, _, _ => rfl
  | node l r, off, p => by simp [par, size, par_len l, par_len r]; omega
theorem runs_le : ∀ t : T, t.runs ≤ t.size
  | nil => Nat.le_refl _
  | node l r => by have := runs_le r; simp [runs, size]; omega
theorem sum_sch : ∀ t : T, t.sch.sum + t.runs = t.size
  | nil => rfl
  | node l r => by
    have h1 := sum_sch l; have h2 := sum_sch r
    simp [sch, runs, size, List.sum_append]; omega
theorem stk_len : ∀ (t : T) (off : Nat), (t.stk off).length = t.runs
  | nil, _ => rfl
  | node l r, off => by simp [stk, runs, stk_len r]; omega

/-! ### push -/
theorem push_eq {t : T} : t.push t.runs = node t nil := by
  unfold push; rw [if_pos rfl]
theorem push_node {l r : T} {m : Nat} (h : m ≤ r.runs) : (node l r).push m = node l (r.push m) := by
  conv => lhs; unfold push
  rw [if_neg (by simp [runs]; omega)]
theorem start_eq {t : T} : t.start t.runs = 0 := by
  unfold start; rw [if_pos rfl]
theorem start_node {l r : T} {m : Nat} (h : m ≤ r.runs) : (node l r).start m = l.size + 1 + r.start m := by
  conv => lhs; unfold start
  rw [if_neg (by simp [runs]; omega)]
/-- the two ways of a push -/
theorem push_ind {C : T → Nat → Prop} (h1 : ∀ t, C t t.runs) (h2 : ∀ l r m, m ≤ r.runs → C r m → C (node l r) m) : ∀ (t : T) (m : Nat), m ≤ t.runs → C t m
  | nil, m, h => by
    have : m = nil.runs := by simp [runs] at h ⊢; omega
    rw [this]; exact h1 nil
  | node l r, m, h => by
    by_cases e : m = (node l r).runs
    · rw [e]; exact h1 _
    · have hm : m ≤ r.runs := by simp [runs] at h e; omega
      exact h2 l r m hm (push_ind h1 h2 r m hm)
theorem push_sch : ∀ (t : T) (m : Nat), m ≤ t.runs → (t.push m).sch = t.sch ++ [m] :=
  push_ind (fun t => by rw [push_eq]; simp [sch]) fun l r m h ih => by rw [push_node h]; simp [sch, ih]
theorem push_size : ∀ (t : T) (m : Nat), m ≤ t.runs → (t.push m).size = t.size + 1 :=
  push_ind (fun t => by rw [push_eq]; simp [size]) fun l r m h ih => by rw [push_node h]; simp [size, ih]; omega
theorem push_runs : ∀ (t : T) (m : Nat), m ≤ t.runs → (t.push m).runs = t.runs - m + 1 :=
  push_ind (fun t => by rw [push_eq]; simp [runs]) fun l r m h ih => by rw [push_node h]; simp [runs, ih]; omega
theorem push_rc : ∀ (t : T) (m : Nat), m ≤ t.runs → (t.push m).rc = t.rc ++ [t.runs - m + 1] :=
  push_ind (fun t => by rw [push_eq]; simp [rc]) fun l r m h ih => by
    rw [push_node h]; simp [rc, ih, runs]; omega
theorem start_le : ∀ (t : T) (m : Nat), m ≤ t.runs → t.start m ≤ t.size :=
  push_ind (fun t => by rw [start_eq]; omega) fun l r m h ih => by rw [start_node h]; simp [size]; omega
theorem push_wr : ∀ (t : T) (m : Nat), m ≤ t.runs → (t.push m).wr = t.wr.take (t.start m) ++ ((t.wr.drop (t.start m)).map (· + 1) ++ [1]) :=
  push_ind (fun t => by rw [push_eq, start_eq]; simp [wr]) fun l r m h ih => by
    rw [push_node h, start_node h]
    have e : (wr (node l r)) = (l.wr.map (· + 1) ++ [1]) ++ r.wr := by simp [wr]
    have el : (l.wr.map (· + 1) ++ [1]).length = l.size + 1 := by simp [wr_len]
    rw [e, List.take_append, List.drop_append, el]
    rw [List.take_of_length_le (by rw [el]; omega), List.drop_eq_nil_of_le (by rw [el]; omega)]
    rw [show l.size + 1 + r.start m - (l.size + 1) = r.start m by omega]
    simp [wr, ih]
theorem stk_push : ∀ (t : T) (m : Nat), m ≤ t.runs → ∀ off, (t.push m).stk off = (t.stk off).take (t.runs - m) ++ [(off + t.start m, off + t.size + 1)] :=
  push_ind (fun t off => by rw [push_eq, start_eq]; simp [stk]) fun l r m h ih off => by
    rw [push_node h, start_node h]
    have hh : (node l r).runs - m = (r.runs - m) + 1 := by simp [runs]; omega
    rw [hh]
    simp [stk, ih, size]
    omega
theorem stk_at : ∀ (t : T) (m : Nat), m ≤ t.runs → ∀ off, 0 < m → ∃ e, (t.stk off)[t.runs - m]? = some (off + t.start m, e) :=
  push_ind (fun t off h => by
      rw [start_eq, Nat.sub_self]
      cases t with
      | nil => simp [runs] at h
      | node l r => exact ⟨_, rfl⟩) fun l r m h ih off h0 => by
    rw [start_node h]
    have hh : (node l r).runs - m = (r.runs - m) + 1 := by simp [runs]; omega
    rw [hh]
    obtain ⟨e, he⟩ := ih (off + l.size + 1) h0
    refine ⟨e, ?_⟩
    simp only [stk, List.getElem?_cons_succ, he]
    congr 2; omega
theorem start_zero : ∀ (t : T) (m : Nat), m ≤ t.runs → m = 0 → t.start m = t.size :=
  push_ind (fun t h => by
      rw [start_eq]
      cases t with
      | nil => rfl
      | node l r => simp [runs] at h) fun l r m h ih h0 => by
    rw [start_node h, ih h0]; simp [size]

/-! ### schedules and trees -/
theorem graft_nil : ∀ t : T, t.graft nil = t
  | nil => rfl
  | node l r => by simp [graft, graft_nil r]
theorem graft_assoc : ∀ a b c : T, (a.graft b).graft c = a.graft (b.graft c)
  | nil, _, _ => rfl
  | node l r, b, c => by simp [graft, graft_assoc r b c]
theorem graft_runs : ∀ a b : T, (a.graft b).runs = a.runs + b.runs
  | nil, b => by simp [graft, runs]
  | node l r, b => by simp [graft, runs, graft_runs r b]; omega
theorem graft_push : ∀ (u l : T), (u.graft l).push l.runs = u.graft (node l nil)
  | nil, l => by simp [graft, push_eq]
  | node a b, l => by
    simp only [graft]
    rw [push_node (by rw [graft_runs]; omega), graft_push b l]
theorem foldl_sch : ∀ (t u : T), t.sch.foldl push u = u.graft t
  | nil, u => by simp [sch, graft_nil]
  | node l r, u => by
    simp only [sch, List.foldl_append, List.foldl_cons]
    rw [foldl_sch l u, graft_push, foldl_sch r, graft_assoc]
    rfl
theorem sch_inj {a b : T} (h : a.sch = b.sch) : a = b := by
  have e1 := foldl_sch a nil
  have e2 := foldl_sch b nil
  rw [h, e2] at e1
  exact e1.symm
end T

/-- a schedule that begins with `runs` runs -/
def Ok : Nat → List Nat → Prop
  | _, [] => True
  | k, m :: r => m ≤ k ∧ Ok (k - m + 1) r
theorem ok_tree : ∀ (p : List Nat) (u : T), Ok u.runs p → ∃ t : T, t.sch = u.sch ++ p ∧ p.foldl T.push u = t
  | [], u, _ => ⟨u, by simp, rfl⟩
  | m :: r, u, h => by
    obtain ⟨h1, h2⟩ := h
    rw [← T.push_runs u m h1] at h2
    obtain ⟨t, e1, e2⟩ := ok_tree r (u.push m) h2
    exact ⟨t, by rw [e1, T.push_sch u m h1]; simp, e2⟩
theorem tree_ex {p : List Nat} (h : Ok 0 p) : ∃ t : T, t.sch = p := by
  obtain ⟨t, e, _⟩ := ok_tree p .nil h
  exact ⟨t, by rw [e]; rfl⟩
theorem ok_app : ∀ (p q : List Nat) (k k' : Nat), Ok k p → k' + p.sum = k + p.length → Ok k' q → Ok k (p ++ q)
  | [], q, k, k', _, e, h => by
    have : k' = k := by simpa using e
    subst this; exact h
  | m :: r, q, k, k', h, e, hq => ⟨h.1, ok_app r q (k - m + 1) k' h.2 (by have := h.1; simp at e; omega) hq⟩
theorem ok_sch_from : ∀ (t : T) (k : Nat), Ok k t.sch
  | .nil, _ => trivial
  | .node l r, k => by
    refine ok_app l.sch _ k (k + l.runs) (ok_sch_from l k) (by have := T.sum_sch l; rw [T.sch_len]; omega) ?_
    exact ⟨by omega, ok_sch_from r _⟩
theorem ok_take : ∀ (p : List Nat) (k i : Nat), Ok k p → Ok k (p.take i)
  | [], _, i, _ => by cases i <;> trivial
  | m :: r, k, 0, _ => trivial
  | m :: r, k, i + 1, h => ⟨h.1, ok_take r _ i h.2⟩
/-- the tree of the first i flushes -/
def pre (t : T) (i : Nat) : T := (t.sch.take i).foldl T.push .nil
theorem pre_sch (t : T) (i : Nat) : (pre t i).sch = t.sch.take i := by
  obtain ⟨u, e1, e2⟩ := ok_tree (t.sch.take i) .nil (ok_take _ _ i (ok_sch_from t _))
  unfold pre; rw [e2, e1]; rfl
theorem pre_size {t : T} {i : Nat} (h : i ≤ t.size) : (pre t i).size = i := by
  rw [← T.sch_len, pre_sch, List.length_take, T.sch_len]; omega
theorem pre_zero (t : T) : pre t 0 = .nil := rfl
theorem pre_all (t : T) : pre t t.size = t := T.sch_inj (by rw [pre_sch, List.take_of_length_le (by rw [T.sch_len]; exact Nat.le_refl _)])
theorem ok_last : ∀ (p : List Nat) (k m : Nat) (q : List Nat), Ok k (p ++ m :: q) → m + p.sum ≤ k + p.length
  | [], k, m, q, h => by simpa using h.1
  | a :: r, k, m, q, h => by
    have := ok_last r (k - a + 1) m q h.2
    have h1 := h.1
    simp; omega
theorem pre_succ {t : T} {i : Nat} {m : Nat} (h : t.sch[i]? = some m) : pre t (i + 1) = (pre t i).push m ∧ m ≤ (pre t i).runs := by
  have hi : i < t.sch.length := (List.getElem?_eq_some_iff.mp h).1
  constructor
  · unfold pre
    rw [List.take_add_one, h]
    simp
  · have e : t.sch = t.sch.take i ++ m :: t.sch.drop (i + 1) := by
      have h2 := List.getElem?_eq_some_iff.mp h
      obtain ⟨h3, h4⟩ := h2
      rw [← h4]
      simp
    have h1 := ok_sch_from t 0
    rw [e] at h1
    have h2 := ok_last _ _ _ _ h1
    have h3 := T.sum_sch (pre t i)
    rw [pre_sch] at h3
    have h4 : (pre t i).size = (t.sch.take i).length := by rw [← T.sch_len, pre_sch]
    omega
theorem rc_take : ∀ (t : T) (i : Nat), (pre t i).rc = t.rc.take i := by
  intro t i
  by_cases hi : i ≤ t.size
  · suffices h : ∀ k, i + k = t.size → (pre t i).rc = t.rc.take i from h (t.size - i) (by omega)
    intro k
    induction k generalizing i with
    | zero =>
      intro e
      rw [show i = t.size by omega, pre_all, List.take_of_length_le (by rw [T.rc_len]; omega)]
    | succ k ih =>
      intro e
      have hl : i < t.sch.length := by rw [T.sch_len]; omega
      obtain ⟨e1, h1⟩ := pre_succ (List.getElem?_eq_getElem hl)
      have h2 := ih (i + 1) (by omega) (by omega)
      rw [e1, T.push_rc _ _ h1] at h2
      have h3 := congrArg (List.take i) h2
      rw [List.take_append_of_le_length (by rw [T.rc_len, pre_size (by omega)]; omega), List.take_take, List.take_of_length_le (by rw [T.rc_len, pre_size (by omega)]; omega)] at h3
      rw [h3]; congr 1; omega
  · have e : t.sch.take i = t.sch := List.take_of_length_le (by rw [T.sch_len]; omega)
    have : pre t i = t := T.sch_inj (by rw [pre_sch, e])
    rw [this, List.take_of_length_le (by rw [T.rc_len]; omega)]
theorem rc_at {t : T} {i m : Nat} (h : t.sch[i]? = some m) : t.rc[i]? = some ((pre t i).runs - m + 1) := by
  obtain ⟨e1, h1⟩ := pre_succ h
  have hi : i < t.size := by rw [← T.sch_len]; exact (List.getElem?_eq_some_iff.mp h).1
  have h2 := rc_take t (i + 1)
  rw [e1, T.push_rc _ _ h1] at h2
  have h3 := congrArg (fun l : List Nat => l[i]?) h2
  simp only [List.getElem?_take] at h3
  rw [List.getElem?_append_right (by rw [T.rc_len, pre_size (by omega)]; omega), T.rc_len, pre_size (by omega)] at h3
  simp at h3
  exact h3.symm
theorem pre_runs {t : T} {i : Nat} (h : i < t.size) : t.rc[i]? = some (pre t (i + 1)).runs := by
  have hl : i < t.sch.length := by rw [T.sch_len]; exact h
  obtain ⟨e1, h1⟩ := pre_succ (List.getElem?_eq_getElem hl)
  rw [rc_at (List.getElem?_eq_getElem hl), e1, T.push_runs _ _ h1]
/-! ### write counts by place -/
theorem wr_step {t : T} {m : Nat} (h : m ≤ t.runs) (k : Nat) : ((t.push m).wr.getD k 0) = if t.start m ≤ k ∧ k < t.size + 1 then t.wr.getD k 0 + 1 else t.wr.getD k 0 := by
  have hs := T.start_le t m h
  have hl := T.wr_len t
  rw [T.push_wr t m h]
  simp only [List.getD_eq_getElem?_getD]
  by_cases h1 : k < t.start m
  · rw [List.getElem?_append_left (by rw [List.length_take]; omega), List.getElem?_take, if_pos h1, if_neg (by omega)]
  · have e : (t.wr.take (t.start m)).length = t.start m := by rw [List.length_take]; omega
    rw [List.getElem?_append_right (by omega), e]
    by_cases h2 : k < t.size
    · rw [List.getElem?_append_left (by rw [List.length_map, List.length_drop]; omega), List.getElem?_map, List.getElem?_drop, if_pos (by omega), show t.start m + (k - t.start m) = k by omega]
      rw [List.getElem?_eq_getElem (by omega)]
      rfl
    · by_cases h3 : k = t.size
      · have e2 : ((t.wr.drop (t.start m)).map (· + 1)).length = k - t.start m := by rw [List.length_map, List.length_drop]; omega
        rw [List.getElem?_append_right (by omega), e2, Nat.sub_self, if_pos (by omega), List.getElem?_eq_none (by omega : t.wr.length ≤ k)]
        rfl
      · rw [List.getElem?_eq_none (by simp; omega), if_neg (by omega), List.getElem?_eq_none (by omega : t.wr.length ≤ k)]
theorem list_by {c d : List Nat} (hl : c.length = d.length) (h : ∀ k, k < c.length → c[k]? = some (d.getD k 0)) : c = d := by
  refine List.ext_getElem? fun k => ?_
  by_cases hk : k < c.length
  · rw [h k hk, List.getD_eq_getElem?_getD, List.getElem?_eq_getElem (by omega)]
    rfl
  · rw [List.getElem?_eq_none (by omega), List.getElem?_eq_none (by omega)]
theorem stk_last {t : T} {i m : Nat} (h : t.sch[i]? = some m) : (pre t (i + 1)).stk 0 = ((pre t i).stk 0).take ((pre t i).runs - m) ++ [((pre t i).start m, i + 1)] := by
  obtain ⟨e, h1⟩ := pre_succ h
  have hi : i < t.size := by rw [← T.sch_len]; exact (List.getElem?_eq_some_iff.mp h).1
  rw [e, T.stk_push _ _ h1, Nat.zero_add, Nat.zero_add, pre_size (by omega)]

/-! ### subtrees -/
inductive Sub (t : T) : Nat → T → Nat → Int → Prop
  | root : Sub t 0 t 1 (-1)
  | left {off k : Nat} {p : Int} {l r : T} : Sub t off (.node l r) k p → Sub t off l k ((off + l.size : Nat) : Int)
  | right {off k : Nat} {p : Int} {l r : T} : Sub t off (.node l r) k p → Sub t (off + l.size + 1) r (k + 1) ((off + l.size : Nat) : Int)
def T.parOf (t : T) : List Int := t.par 0 (-1)
theorem slice_left {α : Type} {L a b : List α} {x : α} {off : Nat} (h : (L.drop off).take (a.length + 1 + b.length) = a ++ x :: b) : (L.drop off).take a.length = a := by
  have := congrArg (List.take a.length) h
  rw [List.take_take, List.take_left' rfl, show min a.length (a.length + 1 + b.length) = a.length by omega] at this
  exact this
theorem slice_mid {α : Type} {L a b : List α} {x : α} {off : Nat} (h : (L.drop off).take (a.length + 1 + b.length) = a ++ x :: b) : L[off + a.length]? = some x := by
  have := congrArg (fun l : List α => l[a.length]?) h
  simp only [List.getElem?_take, List.getElem?_drop] at this
  rw [if_pos (by omega), List.getElem?_append_right (Nat.le_refl _), Nat.sub_self] at this
  simpa using this
theorem slice_right {α : Type} {L a b : List α} {x : α} {off : Nat} (h : (L.drop off).take (a.length + 1 + b.length) = a ++ x :: b) : (L.drop (off + a.length + 1)).take b.length = b := by
  have := congrArg (List.drop (a.length + 1)) h
  rw [List.drop_take, List.drop_drop] at this
  have e2 : List.drop (a.length + 1) (a ++ x :: b) = b := by
    rw [List.drop_append]; simp
  rw [e2] at this
  have h2 := congrArg (List.take b.length) this
  rw [List.take_take, List.take_length] at h2
  rw [← Nat.add_assoc] at h2
  rw [show b.length = min b.length (a.length + 1 + b.length - (a.length + 1)) by omega]
  exact h2
theorem sub_le {t : T} {off k : Nat} {s : T} {p : Int} (h : Sub t off s k p) : off + s.size ≤ t.size ∧ 1 ≤ k ∧ k ≤ off + 1 := by
  induction h with
  | root => exact ⟨by omega, by omega, by omega⟩
  | left _ ih => simp only [T.size] at ih; omega
  | right _ ih => simp only [T.size] at ih; omega
theorem sub_out {t : T} {off k : Nat} {s : T} {p : Int} (h : Sub t off s k p) : (p = -1 ∨ ((0 ≤ p ∧ p < t.size) ∧ (p + 1 = off ∨ p = ((off + s.size : Nat) : Int)))) := by
  cases h with
  | root => exact .inl rfl
  | left h => have := sub_le h; simp only [T.size] at this; exact .inr ⟨by omega, .inr rfl⟩
  | right h => have := sub_le h; simp only [T.size] at this; exact .inr ⟨by omega, .inl (by omega)⟩
theorem sub_rc {t : T} {off k : Nat} {s : T} {p : Int} (h : Sub t off s k p) : (t.rc.drop off).take s.size = s.rc.map (· + (k - 1)) := by
  induction h with
  | root => simp [← T.rc_len]
  | @left off k p l r h ih =>
    have e : (T.node l r).rc.map (· + (k - 1)) = l.rc.map (· + (k - 1)) ++ (1 + (k - 1)) :: (r.rc.map (· + 1)).map (· + (k - 1)) := by simp [T.rc]
    rw [e] at ih
    have hl : (l.rc.map (· + (k - 1))).length = l.size := by rw [List.length_map, T.rc_len]
    have hr : ((r.rc.map (· + 1)).map (· + (k - 1))).length = r.size := by rw [List.length_map, List.length_map, T.rc_len]
    have := slice_left (a := l.rc.map (· + (k - 1))) (b := (r.rc.map (· + 1)).map (· + (k - 1))) (L := t.rc) (off := off) (x := 1 + (k - 1)) (by rw [hl, hr]; exact ih)
    rw [hl] at this
    exact this
  | @right off k p l r h ih =>
    have e : (T.node l r).rc.map (· + (k - 1)) = l.rc.map (· + (k - 1)) ++ (1 + (k - 1)) :: (r.rc.map (· + 1)).map (· + (k - 1)) := by simp [T.rc]
    rw [e] at ih
    have hl : (l.rc.map (· + (k - 1))).length = l.size := by rw [List.length_map, T.rc_len]
    have hr : ((r.rc.map (· + 1)).map (· + (k - 1))).length = r.size := by rw [List.length_map, List.length_map, T.rc_len]
    have := slice_right (a := l.rc.map (· + (k - 1))) (b := (r.rc.map (· + 1)).map (· + (k - 1))) (L := t.rc) (off := off) (x := 1 + (k - 1)) (by rw [hl, hr]; exact ih)
    rw [hl, hr] at this
    rw [this, List.map_map]
    refine List.map_congr_left fun a _ => ?_
    have := (sub_le h).2.1
    simp only [Function.comp]
    omega
theorem sub_par {t : T} {off k : Nat} {s : T} {p : Int} (h : Sub t off s k p) : (t.parOf.drop off).take s.size = s.par (off : Int) p := by
  induction h with
  | root => simp only [T.parOf]; rw [List.drop_zero, List.take_of_length_le (by rw [T.par_len]; omega)]; rfl
  | @left off k p l r h ih =>
    simp only [T.par] at ih
    have hl := T.par_len l (off : Int) ((off : Int) + l.size)
    have hr := T.par_len r ((off : Int) + l.size + 1) ((off : Int) + l.size)
    have := slice_left (a := l.par (off : Int) ((off : Int) + l.size)) (b := r.par ((off : Int) + l.size + 1) ((off : Int) + l.size)) (L := t.parOf) (off := off) (x := p) (by rw [hl, hr]; exact ih)
    rw [hl] at this
    rw [this, Int.natCast_add]
  | @right off k p l r h ih =>
    simp only [T.par] at ih
    have hl := T.par_len l (off : Int) ((off : Int) + l.size)
    have hr := T.par_len r ((off : Int) + l.size + 1) ((off : Int) + l.size)
    have := slice_right (a := l.par (off : Int) ((off : Int) + l.size)) (b := r.par ((off : Int) + l.size + 1) ((off : Int) + l.size)) (L := t.parOf) (off := off) (x := p) (by rw [hl, hr]; exact ih)
    rw [hl, hr] at this
    rw [this]
    simp only [Int.natCast_add]
    rfl
theorem sub_root {t : T} {off k : Nat} {l r : T} {p : Int} (h : Sub t off (.node l r) k p) : t.parOf[off + l.size]? = some p := by
  have ih := sub_par h
  simp only [T.par] at ih
  have hl := T.par_len l (off : Int) ((off : Int) + l.size)
  have hr := T.par_len r ((off : Int) + l.size + 1) ((off : Int) + l.size)
  have := slice_mid (a := l.par (off : Int) ((off : Int) + l.size)) (b := r.par ((off : Int) + l.size + 1) ((off : Int) + l.size)) (L := t.parOf) (off := off) (x := p) (by rw [hl, hr]; exact ih)
  rw [hl] at this
  exact this
/-- the parents of a subtree: the root's alone lies outside -/
theorem par_in : ∀ (s : T) (off p : Int) (i : Nat) (q : Int), (s.par off p)[i]? = some q → (∃ l r, s = .node l r ∧ i = l.size ∧ q = p) ∨ (off ≤ q ∧ q < off + s.size ∧ ∀ l r, s = .node l r → i ≠ l.size)
  | .nil, _, _, _, _, h => by simp [T.par] at h
  | .node l r, off, p, i, q, h => by
    simp only [T.par] at h
    have hl := T.par_len l off (off + l.size)
    by_cases h1 : i < l.size
    · rw [List.getElem?_append_left (by omega)] at h
      refine .inr ?_
      rcases par_in l off (off + l.size) i q h with ⟨a, b, e, e2, e3⟩ | ⟨h2, h3, _⟩
      · refine ⟨by omega, by simp only [T.size]; omega, fun l' r' e' => by cases e'; omega⟩
      · refine ⟨by omega, by simp only [T.size]; omega, fun l' r' e' => by cases e'; omega⟩
    · rw [List.getElem?_append_right (by omega), hl] at h
      by_cases h2 : i = l.size
      · subst h2
        rw [Nat.sub_self] at h
        have : p = q := by simpa using h
        exact .inl ⟨l, r, rfl, rfl, this.symm⟩
      · obtain ⟨j, e⟩ : ∃ j, i - l.size = j + 1 := ⟨i - l.size - 1, by omega⟩
        rw [e, List.getElem?_cons_succ] at h
        refine .inr ?_
        rcases par_in r (off + l.size + 1) (off + l.size) j q h with ⟨a, b, e4, e2, e3⟩ | ⟨h4, h3, _⟩
        · refine ⟨by omega, by simp only [T.size]; omega, fun l' r' e' => by cases e'; omega⟩
        · refine ⟨by omega, by simp only [T.size]; omega, fun l' r' e' => by cases e'; omega⟩
theorem rc_pos : ∀ (s : T) (i v : Nat), s.rc[i]? = some v → 1 ≤ v
  | .nil, _, _, h => by simp [T.rc] at h
  | .node l r, i, v, h => by
    simp only [T.rc] at h
    by_cases h1 : i < l.size
    · rw [List.getElem?_append_left (by rw [T.rc_len]; exact h1)] at h
      exact rc_pos l i v h
    · rw [List.getElem?_append_right (by rw [T.rc_len]; omega), T.rc_len] at h
      rcases Nat.eq_zero_or_pos (i - l.size) with e | e
      · rw [e] at h; simp at h; omega
      · obtain ⟨j, e⟩ : ∃ j, i - l.size = j + 1 := ⟨i - l.size - 1, by omega⟩
        rw [e, List.getElem?_cons_succ, List.getElem?_map] at h
        cases h2 : r.rc[j]? with
        | none => rw [h2] at h; cases h
        | some u => rw [h2] at h; simp at h; omega
theorem rc_one {l r : T} {i : Nat} (h : (T.node l r).rc[i]? = some 1) : i ≤ l.size := by
  simp only [T.rc] at h
  by_cases h1 : i ≤ l.size
  · exact h1
  · rw [List.getElem?_append_right (by rw [T.rc_len]; omega), T.rc_len] at h
    obtain ⟨j, e⟩ : ∃ j, i - l.size = j + 1 := ⟨i - l.size - 1, by omega⟩
    rw [e, List.getElem?_cons_succ, List.getElem?_map] at h
    cases h2 : r.rc[j]? with
    | none => rw [h2] at h; cases h
    | some u =>
      have := rc_pos r j u h2
      rw [h2] at h; simp at h; omega
theorem rc_root (l r : T) : (T.node l r).rc[l.size]? = some 1 := by
  simp only [T.rc]
  rw [List.getElem?_append_right (by rw [T.rc_len]; exact Nat.le_refl _), T.rc_len, Nat.sub_self]; rfl
theorem sub_rc_at {t : T} {off k : Nat} {s : T} {p : Int} (h : Sub t off s k p) {i : Nat} (hi : i < s.size) : ∃ v, s.rc[i]? = some v ∧ t.rc[off + i]? = some (v + (k - 1)) := by
  have e := congrArg (fun l : List Nat => l[i]?) (sub_rc h)
  simp only [List.getElem?_take, List.getElem?_drop, List.getElem?_map] at e
  rw [if_pos hi] at e
  have hv := List.getElem?_eq_getElem (show i < s.rc.length by rw [T.rc_len]; exact hi)
  rw [hv] at e
  exact ⟨_, hv, e⟩
theorem sub_par_at {t : T} {off k : Nat} {s : T} {p : Int} (h : Sub t off s k p) {i : Nat} (hi : i < s.size) : ∃ q, (s.par (off : Int) p)[i]? = some q ∧ t.parOf[off + i]? = some q := by
  have e := congrArg (fun l : List Int => l[i]?) (sub_par h)
  simp only [List.getElem?_take, List.getElem?_drop] at e
  rw [if_pos hi] at e
  have hv := List.getElem?_eq_getElem (show i < (s.par (off : Int) p).length by rw [T.par_len]; exact hi)
  rw [hv] at e
  exact ⟨_, hv, e⟩
theorem filter_one {f : Nat → Bool} {n c : Nat} (hc : c < n) (h1 : f c = true) (h2 : ∀ i, i < n → f i = true → i = c) : (List.range n).filter f = [c] := by
  induction n with
  | zero => omega
  | succ n ih =>
    rw [List.range_succ, List.filter_append]
    by_cases e : c = n
    · subst e
      have e0 : (List.range c).filter f = [] := List.filter_eq_nil_iff.mpr fun i hi hf => by
        have := List.mem_range.mp hi
        have := h2 i (by omega) hf
        omega
      rw [e0]; simp [h1]
    · rw [ih (by omega) fun i hi hf => h2 i (by omega) hf]
      have : f n = false := by
        cases hf : f n with
        | false => rfl
        | true => exact absurd (h2 n (by omega) hf) (by omega)
      simp [this]
/-- the work of a list of subtrees -/
def todo : List (Nat × T × Nat × Int) → Nat
  | [] => 0
  | x :: r => 2 * x.2.1.size + 1 + todo r
theorem todo_app : ∀ a b, todo (a ++ b) = todo a + todo b
  | [], b => by simp [todo]
  | x :: r, b => by simp [todo, todo_app r b]; omega
theorem len_todo : ∀ L, L.length ≤ todo L
  | [] => Nat.le_refl _
  | x :: r => by have := len_todo r; simp [todo]; omega

/-! ### one step up -/
theorem getD_app_l {a b : List Nat} {i : Nat} (h : i < a.length) : (a ++ b).getD i 0 = a.getD i 0 := by
  simp only [List.getD_eq_getElem?_getD, List.getElem?_append_left h]
theorem getD_app_r {a b : List Nat} {i : Nat} (h : a.length ≤ i) : (a ++ b).getD i 0 = b.getD (i - a.length) 0 := by
  simp only [List.getD_eq_getElem?_getD, List.getElem?_append_right h]
theorem getD_map1 {a : List Nat} {i : Nat} (h : i < a.length) : (a.map (· + 1)).getD i 0 = a.getD i 0 + 1 := by
  simp only [List.getD_eq_getElem?_getD, List.getElem?_map, List.getElem?_eq_getElem h]; rfl
theorem wr_l {l r : T} {i : Nat} (h : i < l.size) : (T.node l r).wr.getD i 0 = l.wr.getD i 0 + 1 := by
  simp only [T.wr]
  rw [getD_app_l (by rw [List.length_map, T.wr_len]; exact h), getD_map1 (by rw [T.wr_len]; exact h)]
theorem wr_m {l r : T} : (T.node l r).wr.getD l.size 0 = 1 := by
  simp only [T.wr]
  rw [getD_app_r (by rw [List.length_map, T.wr_len]; exact Nat.le_refl _), List.length_map, T.wr_len, Nat.sub_self]; rfl
theorem wr_r {l r : T} {j : Nat} : (T.node l r).wr.getD (l.size + 1 + j) 0 = r.wr.getD j 0 := by
  simp only [T.wr]
  rw [getD_app_r (by rw [List.length_map, T.wr_len]; omega), List.length_map, T.wr_len, show l.size + 1 + j - l.size = j + 1 by omega, List.getD_cons_succ]
theorem rc_l {l r : T} {i : Nat} (h : i < l.size) : (T.node l r).rc.getD i 0 = l.rc.getD i 0 := by
  simp only [T.rc]
  rw [getD_app_l (by rw [T.rc_len]; exact h)]
theorem rc_m {l r : T} : (T.node l r).rc.getD l.size 0 = 1 := by
  simp only [T.rc]
  rw [getD_app_r (by rw [T.rc_len]; exact Nat.le_refl _), T.rc_len, Nat.sub_self]; rfl
theorem rc_r {l r : T} {j : Nat} (h : j < r.size) : (T.node l r).rc.getD (l.size + 1 + j) 0 = r.rc.getD j 0 + 1 := by
  simp only [T.rc]
  rw [getD_app_r (by rw [T.rc_len]; omega), T.rc_len, show l.size + 1 + j - l.size = j + 1 by omega, List.getD_cons_succ, getD_map1 (by rw [T.rc_len]; exact h)]
theorem up : ∀ (s : T) (off p : Int) (i : Nat) (q : Int), (s.par off p)[i]? = some q →
    (q = p ∧ s.wr.getD i 0 = 1 ∧ s.rc.getD i 0 = 1) ∨
    ∃ j : Nat, q = off + j ∧ j < s.size ∧ j ≠ i ∧ (i < j → s.wr.getD i 0 = s.wr.getD j 0 + 1 ∧ s.rc.getD i 0 = s.rc.getD j 0) ∧ (j < i → s.wr.getD i 0 = s.wr.getD j 0 ∧ s.rc.getD i 0 = s.rc.getD j 0 + 1)
  | .nil, _, _, _, _, h => by simp [T.par] at h
  | .node l r, off, p, i, q, h => by
    simp only [T.par] at h
    have hl := T.par_len l off (off + l.size)
    by_cases h1 : i < l.size
    · rw [List.getElem?_append_left (by omega)] at h
      refine .inr ?_
      rcases up l off (off + l.size) i q h with ⟨e, e1, e2⟩ | ⟨j, e, hj, hne, c1, c2⟩
      · exact ⟨l.size, e, by simp only [T.size]; omega, by omega, fun _ => ⟨by rw [wr_l h1, wr_m, e1], by rw [rc_l h1, rc_m, e2]⟩, fun z => by omega⟩
      · exact ⟨j, e, by simp only [T.size]; omega, hne, fun z => ⟨by rw [wr_l h1, wr_l hj, (c1 z).1], by rw [rc_l h1, rc_l hj, (c1 z).2]⟩, fun z => ⟨by rw [wr_l h1, wr_l hj, (c2 z).1], by rw [rc_l h1, rc_l hj, (c2 z).2]⟩⟩
    · rw [List.getElem?_append_right (by omega), hl] at h
      by_cases h2 : i = l.size
      · subst h2
        rw [Nat.sub_self] at h
        have : p = q := by simpa using h
        exact .inl ⟨this.symm, wr_m, rc_m⟩
      · obtain ⟨k, e⟩ : ∃ k, i = l.size + 1 + k := ⟨i - l.size - 1, by omega⟩
        subst e
        rw [show l.size + 1 + k - l.size = k + 1 by omega, List.getElem?_cons_succ] at h
        have hk : k < r.size := by
          have := (List.getElem?_eq_some_iff.mp h).1
          rw [T.par_len] at this; exact this
        refine .inr ?_
        rcases up r (off + l.size + 1) (off + l.size) k q h with ⟨e, e1, e2⟩ | ⟨j, e, hj, hne, c1, c2⟩
        · exact ⟨l.size, e, by simp only [T.size]; omega, by omega, fun z => by omega, fun _ => ⟨by rw [wr_r, wr_m, e1], by rw [rc_r hk, rc_m, e2]⟩⟩
        · exact ⟨l.size + 1 + j, by rw [e]; omega, by simp only [T.size]; omega, by omega, fun z => ⟨by rw [wr_r, wr_r, (c1 (by omega)).1], by rw [rc_r hk, rc_r hj, (c1 (by omega)).2]⟩, fun z => ⟨by rw [wr_r, wr_r, (c2 (by omega)).1], by rw [rc_r hk, rc_r hj, (c2 (by omega)).2]⟩⟩
theorem wr_pos {t : T} {i : Nat} (h : i < t.size) : 1 ≤ t.wr.getD i 0 := by
  induction t generalizing i with
  | nil => simp [T.size] at h
  | node l r ihl ihr =>
    by_cases h1 : i < l.size
    · rw [wr_l h1]; omega
    · by_cases h2 : i = l.size
      · subst h2; rw [wr_m]; exact Nat.le_refl _
      · obtain ⟨k, e⟩ : ∃ k, i = l.size + 1 + k := ⟨i - l.size - 1, by omega⟩
        subst e
        rw [wr_r]; exact ihr (by simp only [T.size] at h; omega)
theorem rc_posD {t : T} {i : Nat} (h : i < t.size) : 1 ≤ t.rc.getD i 0 := by
  have := List.getElem?_eq_getElem (show i < t.rc.length by rw [T.rc_len]; exact h)
  rw [List.getD_eq_getElem?_getD, this]
  exact rc_pos t i _ this

/-! ### mirrors -/
def mirN (N : Int) (q : Int) : Int := if q = -1 then -1 else N - 1 - q
theorem mir_size : ∀ t : T, t.mir.size = t.size
  | .nil => rfl
  | .node l r => by simp [T.mir, T.size, mir_size l, mir_size r]; omega
theorem mir_par : ∀ (s : T) (N off p : Int), 0 ≤ off → ((s.par off p).reverse).map (mirN N) = s.mir.par (N - off - s.size) (mirN N p)
  | .nil, _, _, _, _ => rfl
  | .node l r, N, off, p, h => by
    simp only [T.par, T.mir, List.reverse_append, List.reverse_cons, List.map_append, List.map_cons, List.map_nil]
    rw [mir_par l N off (off + l.size) h, mir_par r N (off + l.size + 1) (off + l.size) (by omega), mir_size]
    have e1 : mirN N (off + l.size) = N - 1 - (off + l.size) := by unfold mirN; rw [if_neg (by omega)]
    rw [e1]
    have e2 : N - off - ((T.node l r).size : Int) = N - (off + l.size + 1) - r.size := by simp only [T.size]; omega
    rw [e2]
    have e3 : N - (off + ↑l.size + 1) - ↑r.size + ↑r.size = N - 1 - (off + ↑l.size) := by omega
    rw [e3, show N - 1 - (off + (l.size : Int)) + 1 = N - off - l.size by omega]
    simp
theorem mir_parOf (t : T) : t.mir.parOf = (t.parOf.reverse).map (mirN t.size) := by
  unfold T.parOf
  rw [mir_par t t.size 0 (-1) (by omega)]
  rw [show ((t.size : Int) - 0 - t.size) = 0 by omega]
  rfl
theorem mir_wr : ∀ t : T, t.mir.wr = t.rc.reverse
  | .nil => rfl
  | .node l r => by simp [T.mir, T.wr, T.rc, mir_wr l, mir_wr r]
theorem mir_rc : ∀ t : T, t.mir.rc = t.wr.reverse
  | .nil => rfl
  | .node l r => by simp [T.mir, T.wr, T.rc, mir_rc l, mir_rc r]
theorem mir_mir : ∀ t : T, t.mir.mir = t
  | .nil => rfl
  | .node l r => by simp [T.mir, mir_mir l, mir_mir r]

/-! ### parents of a joined tree -/
theorem par_below {N : Int} : ∀ (s : T) (off p : Int), 0 ≤ off → (s.par off p).map (fun q => if q = -1 then N else q) = s.par off (if p = -1 then N else p)
  | .nil, _, _, _ => rfl
  | .node l r, off, p, h => by
    simp only [T.par, List.map_append, List.map_cons]
    rw [par_below l off _ h, par_below r (off + l.size + 1) _ (by omega), if_neg (by omega : ¬ off + (l.size : Int) = -1)]
theorem par_beyond {N : Int} : ∀ (s : T) (off p : Int), 0 ≤ off → (s.par off p).map (fun q => if q = -1 then N else q + N + 1) = s.par (off + N + 1) (if p = -1 then N else p + N + 1)
  | .nil, _, _, _ => rfl
  | .node l r, off, p, h => by
    simp only [T.par, List.map_append, List.map_cons]
    rw [par_beyond l off _ h, par_beyond r (off + l.size + 1) _ (by omega), if_neg (by omega : ¬ off + (l.size : Int) = -1)]
    have e1 : off + (l.size : Int) + N + 1 = off + N + 1 + l.size := by omega
    have e2 : off + (l.size : Int) + 1 + N + 1 = off + N + 1 + l.size + 1 := by omega
    rw [e1, e2]
theorem parOf_node (s u : T) : (T.node s u).parOf = s.parOf.map (fun q => if q = -1 then (s.size : Int) else q) ++ [-1] ++ u.parOf.map (fun q => if q = -1 then (s.size : Int) else q + s.size + 1) := by
  unfold T.parOf
  rw [par_below s 0 (-1) (by omega), par_beyond u 0 (-1) (by omega)]
  simp only [T.par]
  simp
theorem parOf_root (s u : T) : (T.node s u).parOf[s.size]? = some (-1) := by
  have := sub_root (t := T.node s u) .root
  simpa using this
theorem parOf_first {s u : T} {m : Nat} (h : m < s.size) : (T.node s u).parOf[m]? ≠ some (-1) := fun e => by
  rcases par_in _ _ _ _ _ e with ⟨l, r, e1, e2, _⟩ | ⟨h1, _, _⟩
  · cases e1; omega
  · omega

/-! ### runs as lists of flushes -/
theorem stk_pair : ∀ (t : T) (off j : Nat), j + 1 ≤ t.runs → (t.stk off)[t.runs - (j + 1)]? = some (off + t.start (j + 1), off + t.start j)
  | .nil, _, _, h => by simp [T.runs] at h
  | .node l r, off, j, h => by
    by_cases e : j = r.runs
    · subst e
      have e1 : (T.node l r).runs = r.runs + 1 := by simp [T.runs]; omega
      rw [e1, Nat.sub_self, ← e1, T.start_eq, T.start_node (Nat.le_refl _), T.start_eq]
      rfl
    · have h1 : j + 1 ≤ r.runs := by simp [T.runs] at h; omega
      have e1 : (T.node l r).runs - (j + 1) = (r.runs - (j + 1)) + 1 := by simp [T.runs]; omega
      rw [e1, T.start_node h1, T.start_node (by omega)]
      simp only [T.stk, List.getElem?_cons_succ]
      rw [stk_pair r (off + l.size + 1) j h1]
      congr 2 <;> omega
theorem start_anti : ∀ (t : T) (j : Nat), j + 1 ≤ t.runs → t.start (j + 1) < t.start j
  | .nil, _, h => by simp [T.runs] at h
  | .node l r, j, h => by
    by_cases e : j = r.runs
    · subst e
      have e1 : (T.node l r).runs = r.runs + 1 := by simp [T.runs]; omega
      rw [← e1, T.start_eq, T.start_node (Nat.le_refl _), T.start_eq]
      omega
    · have h1 : j + 1 ≤ r.runs := by simp [T.runs] at h; omega
      rw [T.start_node h1, T.start_node (by omega)]
      have := start_anti r j h1
      omega
/-- the flushes of [a, b) -/
def seg (a b : Nat) : List Nat := List.range' a (b - a)
theorem seg_app {a b c : Nat} (h1 : a ≤ b) (h2 : b ≤ c) : seg a b ++ seg b c = seg a c := by
  unfold seg
  have := List.range'_append_1 (s := a) (m := b - a) (n := c - b)
  rw [show a + (b - a) = b by omega, show b - a + (c - b) = c - a by omega] at this
  exact this
theorem seg_one (a : Nat) : seg a (a + 1) = [a] := by
  unfold seg
  rw [show a + 1 - a = 1 by omega]; rfl
theorem seg_nil (a : Nat) : seg a a = [] := by unfold seg; rw [Nat.sub_self]; rfl
theorem seg_len (a b : Nat) : (seg a b).length = b - a := by unfold seg; rw [List.length_range']
theorem seg_at {a b k : Nat} (h : a + k < b) : (seg a b)[k]? = some (a + k) := by
  unfold seg
  rw [List.getElem?_range' (by omega)]
  simp
theorem stk_take_succ {t : T} {j : Nat} (off : Nat) (h : j + 1 ≤ t.runs) : (t.stk off).take (t.runs - j) = (t.stk off).take (t.runs - (j + 1)) ++ [(off + t.start (j + 1), off + t.start j)] := by
  rw [show t.runs - j = (t.runs - (j + 1)) + 1 by omega, List.take_add_one, stk_pair t off j h]; rfl
/-- adjacent, from off on -/
theorem stk_starts : ∀ (t : T) (off : Nat), (t.stk off).map (·.1) = (off :: (t.stk off).map (·.2)).dropLast
  | .nil, _ => rfl
  | .node l r, off => by
    have ih := stk_starts r (off + l.size + 1)
    simp only [T.stk, List.map_cons]
    rw [ih]; rfl
theorem stk_stops : ∀ (t : T) (off : Nat), (off :: (t.stk off).map (·.2)).getLast? = some (off + t.size)
  | .nil, off => by simp [T.stk, T.size]
  | .node l r, off => by
    have ih := stk_stops r (off + l.size + 1)
    simp only [T.stk, List.map_cons, T.size]
    rw [List.getLast?_cons_cons, ih]
    congr 1; omega
theorem stk_lt : ∀ (t : T) (off : Nat) (p : Nat × Nat), p ∈ t.stk off → off ≤ p.1 ∧ p.1 < p.2 ∧ p.2 ≤ off + t.size
  | .nil, _, _, h => by simp [T.stk] at h
  | .node l r, off, p, h => by
    simp only [T.stk] at h
    rcases List.mem_cons.mp h with rfl | h
    · simp only [T.size]; omega
    · have := stk_lt r _ p h
      simp only [T.size]; omega
end MB

set_option maxHeartbeats 4000000
namespace MB
open PySem PySem.Spec PyProof.Rows L2

/-! ### great powers -/
def CPowW (i j : Int) : Prop := 0 ≤ j ∧ (Builtin.Int.intBits i : Int) * j ≤ 2 ^ 27
theorem op_powW {X : Cx} : OpR X (binaryOp .Pow) (rI CPowW fun i j => .int (i ^ j.toNat)) := opI fun _ _ _ _ _ _ _ hc q => pow_int hc.1 hc.2 q

/-! ### xs[i] op= e -/
theorem get_list {X : Cx} : PGet X (rIxL X.K) := by
  intro pins s σ H x y v u Q I rx ry h
  obtain ⟨p, xs, i, z, rfl, rfl, hq, he, q⟩ := h
  cases rx
  obtain ⟨t, rfl⟩ := ry
  obtain ⟨its, r, pl, hz⟩ := I.list hq
  obtain ⟨j, h1, h2, h3, h4, h5⟩ := atI_get he
  obtain ⟨w, ew, rw'⟩ := r.get h2
  have hl := r.length
  have hn := line63
  have fin : EP X pins σ Q w s := ⟨z, H, I, rw', q⟩
  by_cases h0 : 0 ≤ i
  · have hj : i.toNat = j := by
      rw [seqIndex_of h0 h5] at h1
      exact Option.some.inj h1
    exact getItem_listL pl.isList h0 (by omega) (by rw [hj]; exact ew) fin
  · have hj : (i + (its.toArray.size : Int)).toNat = j := by
      rw [seqIndex_neg (by omega) h4] at h1
      rw [List.size_toArray, ← hl]
      exact Option.some.inj h1
    exact wpAny_getItem_list_neg pl.isList (by omega) (by rw [List.size_toArray] <;> omega) (by omega) (by rw [hj]; simpa using ew) fin

/-! ### sum of a tuple of ints -/
theorem ints_at : ∀ {ns : List Int} {its : List Value}, Vals (ns.map V.int) its → ∀ (i : Nat) (v : Value), its[i]? = some v → ∃ t, v = .int (ns.getD i 0) t
  | [], _, .nil, i, v, h => by simp at h
  | n :: ns, u :: us, .cons r rr, 0, v, h => by
    obtain ⟨t, rfl⟩ := r
    simp at h
    exact ⟨t, by simp [h]⟩
  | n :: ns, u :: us, .cons r rr, i + 1, v, h => by
    have := ints_at rr i v (by simpa using h)
    simpa using this
theorem preSum_getD (ns : List Int) : ∀ k, k ≤ ns.length → preSum (fun i => ns.getD i 0) k = (ns.take k).sum
  | 0, _ => by simp [preSum]
  | k + 1, h => by
    have e : ns[k]? = some (ns.getD k 0) := by
      rw [List.getElem?_eq_getElem (by omega), List.getD_eq_getElem?_getD, List.getElem?_eq_getElem (by omega)]
      rfl
    rw [preSum, preSum_getD ns k (by omega), L2.sum_take e]
def rSumT (K : PySem.W.Frag) : List V → Hp → VK → Prop := fun xs H Q => ∃ (a : Addr) (ns : List Int), xs = [V.ref a] ∧ SqT K H a (ns.map V.int) ∧ Q (.int ns.sum) H
theorem cr_sumT {X : Cx} (hc : X.calm = true) : CallR X (.builtin "sum") (rSumT X.K) := by
  intro pins s σ H vs us Q I r h
  obtain ⟨a, ns, rfl, hs, q⟩ := h
  obtain ⟨its, rv, hl, _⟩ := I.tuple hs
  rw [Vals.ref1 r]
  have hT : s.heap.IsTuple a its.toArray := hl
  have hlt : a < s.heap.objs.size := by obtain ⟨_, e, _⟩ := hl; exact Heap.lt_size e
  refine PySem.call_sum_walkG (wpAny_pyIter_tuple hT ?_)
  refine ⟨s.heap.objs.size, [s.heap.objs.size, a], [s.heap.objs.size], its.toArray.size, _, _, fun i => ns.getD i 0, rfl, Walks.tuple (A := X.A.in1) (I.ok.hd hc) _ a (Nat.ne_of_lt hlt) its.toArray, ⟨⟨_, Heap.get?_push_size _ rfl, rfl, rfl⟩, hT.at fun o e => Heap.get?_push_of_some _ e⟩, fun b hb => ?_, fun i v hv => ints_at rv i v (by simpa using hv), fun h' tk t' hk => ?_⟩
  · show b < (s.heap.push _).objs.size
    rw [Heap.size_push]
    have e : b = s.heap.objs.size ∨ b = a := by simpa using hb
    rcases e with e | e
    · rw [e]; exact Nat.lt_succ_self _
    · rw [e]; exact Nat.lt_succ_of_lt hlt
  · have el : its.toArray.size = ns.length := by rw [List.size_toArray, ← rv.length, List.length_map]
    rw [el, preSum_getD ns _ (Nat.le_refl _), List.take_length]
    refine ⟨.int ns.sum, H, I.kept fun b o e => hk b o ?_ (Heap.get?_push_of_some _ e), ⟨_, rfl⟩, q⟩
    have := Heap.lt_size e
    simp only [List.mem_singleton]
    exact Nat.ne_of_lt this

/-! ### enumerate(tuple) -/
set_option maxHeartbeats 4000000 in
theorem meets_enumerate_newT (l : Addr) (items : Array Value) (n : Nat) (dct : Option Addr) (sl : Array (Option Value)) :
    Meets (Builtin.«enumerate.__new__» ⟨[.type "enumerate", .ref l], []⟩) (fun _ R s => s.heap.get? l = some { cls := .type "tuple", dict := dct, data := .seq items n, slots := sl } ∧
      R (.ok (.ret (.ref (s.heap.push { cls := .type "tuple_iterator", data := .fields #[.ref l, .int 0 0] }).objs.size)))
        { s with heap := (s.heap.push { cls := .type "tuple_iterator", data := .fields #[.ref l, .int 0 0] }).push { cls := .type "enumerate", data := .fields #[.none, .bool false, .ref s.heap.objs.size, rawInt 0, .none, .none] } }) :=
  .of_wp fun prog w A R s h => by
    obtain ⟨hp, g, d, tk, os⟩ := s; obtain ⟨hl, h⟩ := h
    have hsub := sub_enumerate
    have hL : Heap.IsTuple (Shared.heap ⟨hp, g, d, tk, os⟩) l items := ⟨_, hl, rfl, n, rfl⟩
    wp_walk using AutoSeq1.wpAny_loadPart' hl
    refine wpAny_stack_any fun st => wpAny_pure ?_
    split
    · rename_i c _ _ _ _ _
      cases (c == Value.type "enumerate")
      · wp_walk using AutoSeq1.wpAny_loadPart' hl, wpAny_pyIter_tuple hL
        exact ⟨_, rfl, h⟩
      · wp_walk using AutoSeq1.wpAny_loadPart' hl, wpAny_pyIter_tuple hL
        exact ⟨_, rfl, h⟩
    · wp_walk using AutoSeq1.wpAny_loadPart' hl, wpAny_pyIter_tuple hL
      exact ⟨_, rfl, h⟩
section
variable {prog : Program} {w : World} {A : Around} {E : Value → Shared → Prop} {s : Shared}
theorem call_enumerate_tuple {l : Addr} {items : Array Value} {Q : Value → Shared → Prop} (hL : s.heap.IsTuple l items)
    (h : ∀ h', IsEnum h' (s.heap.objs.size + 1) s.heap.objs.size 0 .none → h'.IsTupleIter s.heap.objs.size l 0 → h'.objs.size = s.heap.objs.size + 2 →
      (∀ b o, s.heap.get? b = some o → h'.get? b = some o) → Q (.ref (s.heap.objs.size + 1)) { s with heap := h' }) :
    wpAny (model prog w) A (call (.type "enumerate") [.ref l]) Q E s := by
  obtain ⟨⟨c, dct, dt, sl⟩, hl, hc, n, hd⟩ := hL
  replace hc : c = .type "tuple" := hc
  replace hd : dt = .seq items n := hd
  subst hc hd
  refine callType_new F.called_enumerate (by decide) (F.typeCall_enumerate_1 _) (F.newCall_enumerate_1 _) (fun obj => F.args_object_init_2 obj _) F.entry_enumerate_new
    (meets_enumerate_newT l items n dct sl) ⟨hl, ?_⟩
  have hz : (s.heap.push { cls := .type "tuple_iterator", data := .fields #[.ref l, .int 0 0] }).objs.size = s.heap.objs.size + 1 := Heap.size_push ..
  show _ ∧ _
  rw [hz]
  have he : IsEnum ((s.heap.push { cls := .type "tuple_iterator", data := .fields #[.ref l, .int 0 0] }).push
      { cls := .type "enumerate", data := .fields #[.none, .bool false, .ref s.heap.objs.size, rawInt 0, .none, .none] }) (s.heap.objs.size + 1) s.heap.objs.size 0 .none := by
    have := Heap.get?_push_size (s.heap.push { cls := .type "tuple_iterator", data := .fields #[.ref l, .int 0 0] })
      (o := { cls := .type "enumerate", data := .fields #[.none, .bool false, .ref s.heap.objs.size, rawInt 0, .none, .none] }) rfl
    rw [hz] at this; exact this
  refine ⟨⟨_, he, rfl⟩, h _ he ⟨_, Heap.get?_push_of_some _ (Heap.get?_push_size _ rfl), rfl, rfl⟩ (by rw [Heap.size_push, hz]) fun b o x => Heap.get?_push_of_some _ (Heap.get?_push_of_some _ x)⟩
end
def IteT (K : PySem.W.Frag) (a : Addr) : It :=
  ⟨fun i H => ∃ (xs : List V) (x : V), SqT K H a xs ∧ xs[i]? = some x, fun i H v H' => ∃ T x, v = .ref T ∧ H T = none ∧ H' = upd H T (.tup [.int (i : Nat), x]) ∧ ∀ xs, SqT K H a xs → xs[i]? = some x, fun i H => ∃ xs : List V, SqT K H a xs ∧ xs.length = i⟩
theorem tup_ne {h : Heap} {a it : Addr} {items : Array Value} {i : Nat} (h1 : h.IsTuple a items) (h2 : h.IsTupleIter it a i) : a ≠ it := fun e => by
  obtain ⟨o, ho, hc, n, hd⟩ := h1
  obtain ⟨o', ho', hc', hd'⟩ := h2
  rw [e] at ho
  rw [ho] at ho'
  cases ho'
  rw [hd] at hd'
  cases hd'
theorem turn_enumT {P : Program} {w : World} {K : PySem.W.Frag} {elts : List Expr} {kk : Nat} {tpos : Pos} (a e it : Addr) (hae : a ≠ e) :
    Turn P w K (.Tuple elts kk tpos) (IteT K a) [e, it] e (fun i h => (∃ old, IsEnum h e it ((i : Nat) : Int) old) ∧ h.IsTupleIter it a i ∧ e ≠ it) where
  mem := by simp
  obj := fun i h st b hb => by
    obtain ⟨⟨old, he⟩, ⟨o, ho, hc, hd⟩, _⟩ := st
    have e' : b = e ∨ b = it := by simpa using hb
    rcases e' with z | z
    · rw [z]; exact ⟨_, he, fun v q => nomatch q⟩
    · rw [z]; exact ⟨o, ho, fun v q => by rw [hd] at q; cases q⟩
  keep := fun i h h' st k => let ⟨⟨old, he⟩, hi, hne⟩ := st; ⟨⟨old, k e (by simp) _ he⟩, hi.at fun o q => k it (by simp) o q, hne⟩
  item := by
    intro X hP hw hK hc i pins s σ H E I hf st hg
    subst hP hw hK
    obtain ⟨⟨old, he⟩, hit, hne⟩ := st
    obtain ⟨xs, x, hq, hx⟩ := hg
    obtain ⟨its, rv, p, hz⟩ := I.tuple hq
    have p : s.heap.IsTuple a its.toArray := p
    have hat : a ≠ it := tup_ne p hit
    have hel : e < s.heap.objs.size := Heap.lt_size he
    have hil : it < s.heap.objs.size := by obtain ⟨_, q, _⟩ := hit; exact Heap.lt_size q
    have hlen : i < its.toArray.size := by
      rw [List.size_toArray, ← rv.length]; exact (List.getElem?_eq_some_iff.mp hx).1
    refine wpAny_pyNext_enum_itemD (Draws.tuple (prog := X.prog) (w := X.w) (A := X.A.in1) (I.ok.hd hc) it a hat its.toArray) he ⟨hit, p⟩ hlen hne (by simp; exact ⟨hne, fun z => hae z.symm⟩) fun u h' tk hu ho hit' hT hsz hk => ?_
    obtain ⟨u', hu', ru'⟩ := rv.get hx
    have eu : u = u' := by
      have h1 : its[i]? = some u := by simpa using hu
      rw [h1] at hu'; exact Option.some.inj hu'
    subst eu
    refine ⟨_, rfl, wpAny_letOwnedTupleGo_enum (s := { s with heap := h', toks := tk + 1 }) ho fun h'' he' sb => ?_⟩
    have hT2 : h''.get? s.heap.objs.size = some { cls := .type "tuple", data := .seq #[.int i tk, u] } := (sb.2 _ (Nat.ne_of_gt hel)).trans hT
    have new : ObjOk X.prog X.w (upd H s.heap.objs.size (.tup [.int (i : Nat), x])) h'' s.heap.objs.size (.tup [.int (i : Nat), x]) :=
      ⟨by show 2 ≤ sizeLine; decide, [.int i tk, u], .cons ⟨_, rfl⟩ (.cons ru' .nil), ⟨_, hT2, rfl, _, rfl⟩⟩
    have I1 : Inv X pins σ (upd H s.heap.objs.size (.tup [.int (i : Nat), x])) { s with heap := h'', toks := tk + 1 } :=
      I.turnedNew (ch := [e, it]) (fun b ob hb q => (sb.2 b (fun z => hb (by simp [z]))).trans (hk b ob (fun z => hb (by simp [z])) (fun z => hb (by simp [z])) q)) hf (Nat.le_refl _) new
    refine ⟨.ref s.heap.objs.size, _, I1, rfl, ⟨_, x, rfl, I.hok.fresh (Nat.le_refl _), rfl, fun ys hy => by rw [I.tuple_inj hy hq]; exact hx⟩, ⟨⟨u, ?_⟩, hit'.1.at fun o q => (sb.2 it (Ne.symm hne)).trans q, hne⟩, fun b hb => ?_⟩
    · have e1 : ((i + 1 : Nat) : Int) = (i : Int) + 1 := by omega
      rw [e1]; exact he'
    · have hb' : b < s.heap.objs.size := by
        have e' : b = e ∨ b = it := by simpa using hb
        rcases e' with z | z
        · rw [z]; exact hel
        · rw [z]; exact hil
      rw [upd_ne (Nat.ne_of_lt hb')]
      exact (hf b hb).1
  done := by
    intro X hP hw hK hc i pins s σ H E I hf st hg
    subst hP hw hK
    obtain ⟨⟨old, he⟩, hit, hne⟩ := st
    obtain ⟨xs, hq, hx⟩ := hg
    obtain ⟨its, rv, p, hz⟩ := I.tuple hq
    have p : s.heap.IsTuple a its.toArray := p
    have hat : a ≠ it := tup_ne p hit
    obtain ⟨f0, f1, f2, f3, f4, f5⟩ := hf it (by simp)
    have hlen : its.toArray.size = i := by rw [List.size_toArray, ← rv.length, hx]
    refine wpAny_pyNext_enum_endD (Draws.tuple (prog := X.prog) (w := X.w) (A := X.A.in1) (I.ok.hd hc) it a hat its.toArray) he ?_ fun h' eb => ⟨rfl, I.turned (t' := s.toks) (fun b o hb q => eb b o hb q) f0 f1 f3 f4 f5⟩
    rw [hlen]
    exact ⟨hit, p⟩
  self := fun A i s Q E st h => let ⟨⟨_, he⟩, _⟩ := st; wpAny_pyIter_enum he h
def iEnumT (K : PySem.W.Frag) (ta : TA) : TI := fun σ H R => ta σ H fun vs H1 => ∃ a xs, vs = [.ref a] ∧ SqT K H1 a xs ∧ R (IteT K a) H1
theorem pi_enumT {X : Cx} {e : Expr} {ta : TA} {p pos tpos : Pos} {elts : List Expr} {kk : Nat} (hg : Gl X "enumerate") (hm : X.mg "enumerate" = none) (ha : PA X [e] ta) (hs : starEach [e] X.env = [(false, eval e X.env)] := by rfl) :
    PI X (.Tuple elts kk tpos) (.Call (.Name "enumerate" p) [e] [] pos) (iEnumT X.K ta) := by
  refine ⟨fun pins s σ H R I h => ?_⟩
  refine Call_ (ld_blt I hg hm boot_enumerate (PyProof.Rows.callWith_type1 (thn (ha.run pos pins s σ H _ I h) fun us s1 ⟨vs, H1, I1, r1, q1⟩ => ?_) hs rfl))
  obtain ⟨a, xs, ex, hq, q⟩ := q1
  subst ex
  cases r1 with
  | cons r rr =>
    cases rr
    cases r
    obtain ⟨its, rv, p', hz⟩ := I1.tuple hq
    have hlt : a < s1.heap.objs.size := by obtain ⟨_, e, _⟩ := p'; exact Heap.lt_size e
    refine call_enumerate_tuple p' fun h' he hit hsz hk => wpAny_pyIter_enum he ?_
    have I2 : Inv X pins σ H1 { s1 with heap := h' } := I1.kept (t' := s1.toks) hk
    refine ⟨s1.heap.objs.size + 1, [s1.heap.objs.size + 1, s1.heap.objs.size], _, _, H1, rfl, I2, turn_enumT a (s1.heap.objs.size + 1) s1.heap.objs.size (Nat.ne_of_lt (Nat.lt_succ_of_lt hlt)), ⟨⟨.none, he⟩, hit, Nat.succ_ne_self _⟩, fun b hb => ?_, q⟩
    have e' : b = s1.heap.objs.size + 1 ∨ b = s1.heap.objs.size := by simpa using hb
    have hle : s1.heap.objs.size ≤ b := by
      rcases e' with z | z
      · rw [z]; exact Nat.le_add_right _ _
      · rw [z]; exact Nat.le_refl _
    exact I1.fpOk hle (I1.hok.fresh hle)
theorem walk_enumT {K : PySem.W.Frag} {a : Addr} {xs : List V} : Walk (IteT K a) xs.length (fun H => SqT K H a xs) (YPair (fun i => some (.int (i : Nat))) (fun i => xs[i]?)) := by
  refine ⟨fun i H hi hG => ⟨xs, xs[i], hG, List.getElem?_eq_getElem hi⟩, fun H hG => ⟨xs, hG, rfl⟩, fun i H x H' hi hG y => ?_⟩
  obtain ⟨T, x, e1, e2, e3, e4⟩ := y
  exact ⟨T, _, x, e1, e2, e3, rfl, e4 xs hG⟩

/-! ### tuple.index of an int -/
theorem flat_ints (ns : List Int) : (ns.map V.int).all flatV = true := by
  rw [List.all_map]
  exact List.all_eq_true.mpr fun _ _ => rfl
theorem mt_tindex {X : Cx} : MtR X "tuple.index" (fun x xs H Q => ∃ p, ∃ ys : List Int, ∃ z j, x = .ref p ∧ xs = [.int z] ∧ SqT X.K H p (ys.map V.int) ∧ ys[j]? = some z ∧ (∀ m, m < j → ys[m]? ≠ some z) ∧ Q (.int (j : Nat)) H) := by
  intro pins s σ H x xs v us Q I rx rs h
  obtain ⟨p, ys, z, j, rfl, rfl, hq, hy, hno, q⟩ := h
  cases rx
  obtain ⟨u, rfl, t, rfl⟩ := vals1 rs
  obtain ⟨its, r, pl, hz⟩ := I.tuple hq
  obtain ⟨⟨cls, dd, dt, sl⟩, ho, hc, n, hd⟩ := pl
  simp only at hc hd
  subst hc
  subst hd
  have hl : its.toArray.size = ys.length := by rw [List.size_toArray, ← r.length, List.length_map]
  have hj : j < its.toArray.size := by rw [hl]; exact (List.getElem?_eq_some_iff.mp hy).1
  have at' : ∀ (m : Nat) (hm : m < its.toArray.size), ∃ y t', ys[m]? = some y ∧ its.toArray[m] = Value.int y t' := fun m hm => by
    have hm' : m < ys.length := by rw [← hl]; exact hm
    obtain ⟨w, hw, t', hw'⟩ := r.get (i := m) (x := .int ys[m]) (by simp [hm'])
    refine ⟨ys[m], t', List.getElem?_eq_getElem hm', ?_⟩
    have e := (List.getElem?_eq_some_iff.mp hw).2
    rw [← hw', ← e]
    simp
  refine call_meets PySem.F.slot_tuple_index ⟨_, ho, rfl⟩ PySem.F.entry_tuple_index (PySem.F.args_tuple_index_2 _ _) (TI.tuple_indexAt p its.toArray n dd sl (.int z t) (eqU (.int z)) j hj ?_ ?_)
    ⟨ho, fun w hw => mem_eqAt (x := .int z) ⟨t, rfl⟩ rfl r (flat_ints ys) w (by simpa using hw), ⟨.int (j : Nat), H, I.tok _, ⟨_, rfl⟩, q⟩⟩
  · obtain ⟨y, t', h1, h2⟩ := at' j hj
    rw [hy] at h1
    cases h1
    rw [h2]
    show (z == z) = true
    exact beq_self_eq_true z
  · intro m hm hmj
    obtain ⟨y, t', h1, h2⟩ := at' m hm
    rw [h2]
    show (y == z) = false
    exact beq_eq_false_iff_ne.mpr fun e => hno m hmj (e ▸ h1)

/-! ### rules by the written part K itself (for a comprehension's block) -/
def rLen (K : PySem.W.Frag) : List V → Hp → VK → Prop := fun xs H Q => ∃ p ys, xs = [.ref p] ∧ (SqL K H p ys ∨ SqT K H p ys) ∧ Q (.int ys.length) H
def rTupOf (K : PySem.W.Frag) : List V → Hp → VK → Prop := fun xs H Q => ∃ p ys, xs = [.ref p] ∧ ((SqL K H p ys ∧ ∀ l, H l = none → Q (.ref l) (upd H l (.tup ys))) ∨ (SqT K H p ys ∧ Q (.ref p) H))
def rListOf (K : PySem.W.Frag) : List V → Hp → VK → Prop := fun xs H Q => ∃ p ys, xs = [.ref p] ∧ (SqL K H p ys ∨ SqT K H p ys) ∧ ∀ l, H l = none → Q (.ref l) (upd H l (.lst ys))
section
variable {X : Cx} {K : PySem.W.Frag}
theorem k_len (hK : X.K = K) : CallR X (.builtin "len") (rLen K) := by subst hK; exact call_len_seq
theorem k_tupOf (hK : X.K = K) : CallR X (.type "tuple") (rTupOf K) := by subst hK; exact call_tuple_of
theorem k_listOf (hK : X.K = K) : CallR X (.type "list") (rListOf K) := by subst hK; exact call_list_of
theorem k_isi (hK : X.K = K) : CallR X (.builtin "isinstance") (rIsi K) := by subst hK; exact call_isi
theorem k_ixT (hK : X.K = K) : IxR X (rIxT K) := by subst hK; exact ix_tup
theorem k_ixL (hK : X.K = K) : IxR X (rIxL K) := by subst hK; exact ix_list
theorem k_slT (hK : X.K = K) : SlR X (rSlA K) := by subst hK; exact sl_tupA
theorem k_catT (hK : X.K = K) : OpR X (binaryOp .Add) (rCatA K) := by subst hK; exact op_catA
theorem k_sumT (hK : X.K = K) (hc : X.calm = true) : CallR X (.builtin "sum") (rSumT K) := by subst hK; exact cr_sumT hc
end

/-! ### a statement, then the rest, with a word between them -/
def tCut (t u : TS) : TS := fun D σ H => ∃ Mid : L2.St → Hp → Prop, t { D with nx := Mid } σ H ∧ ∀ σ' H', Mid σ' H' → u D σ' H'
theorem pss_cut {X : Cx} {st : Stmt} {rest : List Stmt} {t u : TS} (h1 : PS X st t) (h2 : PSs X rest u) : PSs X (st :: rest) (tCut t u) := by
  refine ⟨fun pins s σ H D I h => ?_⟩
  obtain ⟨Mid, hm, hu⟩ := h
  refine wpAny_execs_cons (thn (h1.run pins s σ H { D with nx := Mid } I hm) fun f s1 q => ?_)
  cases f with
  | next =>
    obtain ⟨σ', H', I', q⟩ := q
    exact h2.run pins s1 σ' H' D I' (hu σ' H' q)
  | ret v => exact q
  | brk => exact q
  | cont => exact q

/-! ### a tuple that is known to be plain; its method index -/
def rTupOfZ (K : PySem.W.Frag) : List V → Hp → VK → Prop := fun xs H Q => ∃ p ys, xs = [.ref p] ∧ SqL K H p ys ∧ ∀ l o, H l = none → o.dict = none → Q (.ref l) (upd H l (.frz o (.tup ys)))
theorem k_tupOfZ {X : Cx} {K : PySem.W.Frag} (hK : X.K = K) : CallR X (.type "tuple") (rTupOfZ K) := by
  subst hK
  intro pins s σ H xs us Q I r h
  obtain ⟨p, ys, rfl, hq, q⟩ := h
  obtain ⟨u, rfl, rx⟩ := vals1 r
  cases rx
  obtain ⟨its, r', pl, hz⟩ := I.list hq
  have hlen := r'.length
  refine call_tuple_list pl.isList (fun h' kp => ?_) (by simp only [List.size_toArray] <;> omega)
  have I1 : Inv X pins σ H { s with heap := h' } := I.kept (t' := s.toks) kp
  have I2 : Inv X pins σ (upd H h'.objs.size (.frz { cls := .type "tuple", data := .seq its.toArray } (.tup ys))) { s with heap := h'.push { cls := .type "tuple", data := .seq its.toArray } } :=
    I1.laid (t' := s.toks) (fun b o e => Heap.get?_push_of_some _ e) (Nat.le_refl _) (show ObjOk X.prog X.w _ _ _ (.frz _ (.tup ys)) from ⟨Heap.get?_push_size _ rfl, hz, its, r', IsTup.new _ _⟩)
  exact ⟨.ref h'.objs.size, _, I2, rfl, q _ _ (I1.hok.fresh (Nat.le_refl _)) rfl⟩
def tTM (r : V → List V → Hp → VK → Prop) (to : TE) (t : TA) : TE := fun σ H Q => to σ H fun x H1 => (∃ a ob xs, x = .ref a ∧ H1 a = some (.frz ob (.tup xs)) ∧ ob.dict = none) ∧ t σ H1 fun xs H2 => r x xs H2 Q
theorem pe_tm {X : Cx} {o e : Expr} {es : List Expr} {to : TE} {t : TA} {name : Str} {apos cpos : Pos} {id : String} {r : V → List V → Hp → VK → Prop} (slot : Slot "tuple" name id) (hty : typeOf (.builtin id) = pure (.type "method_descriptor")) (hm : MtR X id r) (ho : PE X o to) (ha : PA X (e :: es) t)
    (hbase : attributeBase o name X.env (eval o X.env) = eval o X.env := by rfl)
    (hfew : ((backTo cpos (starEach (e :: es) X.env)).all (fun x => !x.1) && (backToKw cpos (keywordEach [] X.env)).all (fun x => x.1.isSome)
      && decide ((e :: es).length + ([] : List Keyword).length + (if ([] : List Keyword).isEmpty then 0 else 1) < 30)) = true := by rfl)
    (hline : (apos.endLine == cpos.line) = true := by rfl) (hs : starEach (e :: es) X.env = (false, eval e X.env) :: starEach es X.env := by rfl) (hplain : (backTo cpos (starEach es X.env)).any (·.1) = false := by rfl) :
    PE X (.Call (.Attribute o name apos) (e :: es) [] cpos) (tTM r to t) := by
  refine ⟨fun pins s σ H Q I h => ?_⟩
  refine wpAny_Call_method_late hbase hfew hline rfl (thn (ho.run pins s σ H _ I h) fun v s1 ⟨x, H1, I1, r1, ty, q1⟩ => ?_)
  obtain ⟨a, ob, xs, rfl, hf, hd⟩ := ty
  cases r1
  obtain ⟨hg, hz, its, rv, o', ho', hc, _⟩ := (show ObjOk X.prog X.w H1 s1.heap a (.frz ob (.tup xs)) from I1.hok a _ hf)
  have hc' : ob.cls = .type "tuple" := by rw [hg] at ho'; cases ho'; exact hc
  refine ⟨"tuple", id, PySem.F.plainAttrs_tuple, slot, hty, ⟨ob, hg, hc'⟩, fun b e => by cases e; exact ⟨ob, hg, hd⟩, ?_⟩
  have hA := ha.run cpos pins s1 σ H1 _ I1 q1
  rw [hs] at hA ⊢
  refine Calls.callWith_builtin (by show (false || (backTo cpos (starEach es X.env)).any (·.1)) = false; rw [hplain] <;> rfl) (Calls.evalArgs_plain ?_)
  exact thn hA fun us s2 ⟨vs, H2, I2, r2, q2⟩ => hm pins s2 σ H2 (.ref a) vs (.ref a) us Q I2 rfl r2 q2

/-! ### places in the text -/
def xAsg : Stmt → Expr
  | .Assign _ e _ => e
  | _ => .Constant .none 0 ⟨0, 0, 0, 0⟩
def xArg (i : Nat) : Expr → Expr
  | .Call _ as _ _ => as.getD i (.Constant .none 0 ⟨0, 0, 0, 0⟩)
  | _ => .Constant .none 0 ⟨0, 0, 0, 0⟩
def xLcSc : Expr → Scope
  | .ListComp _ _ sc _ => sc
  | _ => { kind := .function, names := [], isGenerator := false, isCoroutine := false }
/-! ### readings are monotone -/
theorem mono_pair {K : PySem.W.Frag} {n i j : Nat} (x : V) (σ' : L2.St) (H' : Hp) (Q Q' : L2.St → Hp → Prop) (h : ∀ a b, Q a b → Q' a b) (e : gTup K n (gCons (gName i) (gCons (gName j) gNil)) x σ' H' Q) : gTup K n (gCons (gName i) (gCons (gName j) gNil)) x σ' H' Q' := by
  obtain ⟨a, xs, e1, e2, e3, v, r, e4, v', r', e5, e6, q⟩ := e
  exact ⟨a, xs, e1, e2, e3, v, r, e4, v', r', e5, e6, h _ _ q⟩

section
variable {X : Cx} {K : PySem.W.Frag}
theorem k_piL {tg l : Expr} {tl : TE} (hK : X.K = K) (hl : PE X l tl) : PI X tg l (iList K tl) := by subst hK; exact pi_list hl
theorem k_piT {tg l : Expr} {tl : TE} (hK : X.K = K) (hl : PE X l tl) : PI X tg l (iTup K tl) := by subst hK; exact pi_tup hl
theorem k_pgT2 {x y : Str} {px py : Pos} {k : Nat} {pos : Pos} {t1 t2 : TG} (hK : X.K = K) (hc : X.calm = true) (h1 : PG X (.Name x px) t1) (h2 : PG X (.Name y py) t2) : PG X (.Tuple [.Name x px, .Name y py] k pos) (gTup K 2 (gCons t1 (gCons t2 gNil))) := by
  subst hK
  exact pg_tup hc (pgs_cons h1 (pgs_cons h2 pgs_nil))
end
end MB

set_option maxHeartbeats 4000000
namespace MB
open PySem PySem.Spec PyProof.Rows L2

/-! ### heaps -/
theorem same_upd {H : Hp} {p : Addr} {o : HO} (h : H p = none) : Same H (upd H p o) := fun b x e => by
  rw [upd_ne (ne_of_none e h)]
  exact e
/-- an object that was not tracked may change -/
theorem Same.mut {H H' : Hp} {p : Addr} {o : HO} (s : Same H H') (h : H p = none) : Same H (upd H' p o) := fun b x e => by
  rw [upd_ne (ne_of_none e h)]
  exact s _ _ e
theorem Same.tup {K : PySem.W.Frag} {H H' : Hp} {a : Addr} {xs : List V} (e : Same H H') (h : SqT K H a xs) : SqT K H' a xs := by
  rcases h with (h | ⟨o, h⟩) | h
  · exact .inl (.inl (e _ _ h))
  · exact .inl (.inr ⟨o, e _ _ h⟩)
  · exact .inr h
theorem Same.tupF {K : PySem.W.Frag} {H H' : Hp} {a : Addr} {o : Obj} {xs : List V} (e : Same H H') (h : H a = some (.frz o (.tup xs))) : SqT K H' a xs := .inl (.inr ⟨o, e _ _ h⟩)
theorem Dp.same {K : PySem.W.Frag} {H H' : Hp} (e : Same H H') : ∀ {v : V} {d : PyData}, Dp K H v d → Dp K H' v d := by
  intro v d h
  refine Dp.rec (motive_1 := fun v d _ => Dp K H' v d) (motive_2 := fun vs ds _ => DpAll K H' vs ds) ?_ ?_ ?_ ?_ ?_ ?_ ?_ ?_ h
  · exact .non
  · intro b; exact .bl b
  · intro i; exact .int i
  · intro x; exact .str x
  · intro a xs ds hs _ ih; exact .lst (e.seq hs) ih
  · intro a xs ds hs _ ih; exact .tup (Same.tup e hs) ih
  · exact .nil
  · intro v vs d ds _ _ h1 h2; exact .cons h1 h2
theorem DpAll.get {K : PySem.W.Frag} {H : Hp} : ∀ {vs : List V} {ds : List PyData}, DpAll K H vs ds → ∀ {i : Nat} {d : PyData}, ds[i]? = some d → ∃ v, vs[i]? = some v ∧ Dp K H v d
  | _, _, .nil, i, d, h => by simp at h
  | _, _, .cons a b, 0, d, h => by
    simp at h; subst h
    exact ⟨_, rfl, a⟩
  | _, _, .cons a b, i + 1, d, h => by
    obtain ⟨v, h1, h2⟩ := DpAll.get b (i := i) (d := d) (by simpa using h)
    exact ⟨v, by simpa using h1, h2⟩
theorem DpAll.len {K : PySem.W.Frag} {H : Hp} : ∀ {vs : List V} {ds : List PyData}, DpAll K H vs ds → vs.length = ds.length
  | _, _, .nil => rfl
  | _, _, .cons a b => by simp [DpAll.len b]
theorem DpAll.take {K : PySem.W.Frag} {H : Hp} : ∀ {vs : List V} {ds : List PyData} (n : Nat), DpAll K H vs ds → DpAll K H (vs.take n) (ds.take n)
  | _, _, 0, _ => .nil
  | _, _, _ + 1, .nil => .nil
  | _, _, n + 1, .cons a b => .cons a (DpAll.take n b)
theorem DpAll.append {K : PySem.W.Frag} {H : Hp} : ∀ {vs ws : List V} {ds es : List PyData}, DpAll K H vs ds → DpAll K H ws es → DpAll K H (vs ++ ws) (ds ++ es)
  | _, _, _, _, .nil, s => s
  | _, _, _, _, .cons a b, s => .cons a (DpAll.append b s)
theorem DpAll.same {K : PySem.W.Frag} {H H' : Hp} (e : Same H H') : ∀ {vs : List V} {ds : List PyData}, DpAll K H vs ds → DpAll K H' vs ds
  | _, _, .nil => .nil
  | _, _, .cons a b => .cons (Dp.same e a) (DpAll.same e b)
theorem dp_ints {K : PySem.W.Frag} {H : Hp} : ∀ ns : List Int, DpAll K H (ns.map V.int) (ns.map PyData.int)
  | [] => .nil
  | n :: ns => .cons (.int n) (dp_ints ns)
theorem ty_tup {K : PySem.W.Frag} {H : Hp} {a : Addr} {xs : List V} (h : SqT K H a xs) : TyX K H (.ref a) (.type "tuple") := by
  rcases h with (h | ⟨o, h⟩) | ⟨o, its, n, h, hc, _⟩
  · exact .base (.tup h)
  · exact .fTuple h
  · exact .kTuple h hc

/-! ### lists of numbers -/
def vi (p : List Nat) : List V := p.map fun (m : Nat) => V.int (m : Int)
def ci (p : List Nat) : List Int := p.map fun (m : Nat) => (m : Int)
theorem vi_ci (p : List Nat) : vi p = (ci p).map V.int := by simp [vi, ci]
theorem vi_len (p : List Nat) : (vi p).length = p.length := by simp [vi]
theorem vi_get {p : List Nat} {i m : Nat} (h : p[i]? = some m) : (vi p)[i]? = some (.int (m : Int)) := by simp [vi, h]
theorem vi_app (p q : List Nat) : vi (p ++ q) = vi p ++ vi q := by simp [vi]
theorem at_vi {p : List Nat} {i m : Nat} (h : p[i]? = some m) : atI (vi p) (i : Int) = some (.int (m : Int)) := atI_nat (vi_get h)
theorem sz60 {n : Nat} (h : n ≤ 100000) : n ≤ sizeLine := Nat.le_trans h (by decide)
theorem sz61 {n : Nat} (h : n ≤ 100000) : n < sizeLine := Nat.lt_of_le_of_lt h (by decide)
theorem decT {c : Prop} [Decidable c] (h : c) {A B : Prop} (a : A) : if decide c = true then A else B := by
  rw [if_pos (decide_eq_true h)]; exact a
theorem decF {c : Prop} [Decidable c] (h : ¬ c) {A B : Prop} (b : B) : if decide c = true then A else B := by
  rw [if_neg (by simp [h])]; exact b

/-! ### data of tuples: no list within -/
inductive Tf : PyData → Prop
  | non : Tf .none
  | bl (b : Bool) : Tf (.bool b)
  | int (i : Int) : Tf (.int i)
  | str (x : Str) : Tf (.str x)
  | tup {ds : List PyData} : (∀ d, d ∈ ds → Tf d) → Tf (.tuple ds)
theorem Tf.items {ds : List PyData} (h : Tf (.tuple ds)) : ∀ d, d ∈ ds → Tf d := by
  cases h with
  | tup h => exact h
theorem tf_ints (ns : List Int) : ∀ d, d ∈ ns.map PyData.int → Tf d := fun d h => by
  obtain ⟨i, _, rfl⟩ := List.mem_map.mp h
  exact .int i
/-- all tuples stay -/
def Keep (K : PySem.W.Frag) (H H' : Hp) : Prop := ∀ a xs, SqT K H a xs → SqT K H' a xs
theorem Keep.of {K : PySem.W.Frag} {H H' : Hp} (s : Same H H') : Keep K H H' := fun _ _ h => Same.tup s h
theorem Keep.trans {K : PySem.W.Frag} {H H1 H2 : Hp} (a : Keep K H H1) (b : Keep K H1 H2) : Keep K H H2 := fun _ _ h => b _ _ (a _ _ h)
theorem Keep.refl {K : PySem.W.Frag} {H : Hp} : Keep K H H := fun _ _ h => h
/-- all but the list at l stay -/
def But (l : Addr) (H H' : Hp) : Prop := ∀ b o, b ≠ l → H b = some o → H' b = some o
theorem But.refl {l : Addr} {H : Hp} : But l H H := fun _ _ _ h => h
theorem But.trans {l : Addr} {H H1 H2 : Hp} (a : But l H H1) (b : But l H1 H2) : But l H H2 := fun c o n h => b c o n (a c o n h)
theorem But.of {l : Addr} {H H' : Hp} (s : Same H H') : But l H H' := fun c o _ h => s c o h
theorem But.upd {l : Addr} {H : Hp} {o : HO} : But l H (L2.upd H l o) := fun c u n h => by rw [upd_ne n]; exact h
theorem But.keep {K : PySem.W.Frag} {l : Addr} {H H' : Hp} {ys : List V} (s : But l H H') (hl : H l = some (.lst ys)) : Keep K H H' := fun a xs h => by
  rcases h with (h | ⟨o, h⟩) | h
  · exact .inl (.inl (s _ _ (fun e => by rw [e, hl] at h; cases h) h))
  · exact .inl (.inr ⟨o, s _ _ (fun e => by rw [e, hl] at h; cases h) h⟩)
  · exact .inr h
theorem But.same {l : Addr} {H0 H H' : Hp} (s : Same H0 H) (b : But l H H') (n : H0 l = none) : Same H0 H' := fun c o e => b c o (ne_of_none e n) (s c o e)
theorem Dp.keep {K : PySem.W.Frag} {H H' : Hp} (e : Keep K H H') : ∀ {v : V} {d : PyData}, Tf d → Dp K H v d → Dp K H' v d := by
  intro v d t h
  refine Dp.rec (motive_1 := fun v d _ => Tf d → Dp K H' v d) (motive_2 := fun vs ds _ => (∀ d, d ∈ ds → Tf d) → DpAll K H' vs ds) ?_ ?_ ?_ ?_ ?_ ?_ ?_ ?_ h t
  · intro _; exact .non
  · intro b _; exact .bl b
  · intro i _; exact .int i
  · intro x _; exact .str x
  · intro a xs ds hs _ ih t; cases t
  · intro a xs ds hs _ ih t; exact .tup (e _ _ hs) (ih t.items)
  · intro _; exact .nil
  · intro v vs d ds _ _ h1 h2 t; exact .cons (h1 (t _ (List.mem_cons_self ..))) (h2 fun d hd => t d (List.mem_cons_of_mem _ hd))
theorem DpAll.keep {K : PySem.W.Frag} {H H' : Hp} (e : Keep K H H') : ∀ {vs : List V} {ds : List PyData}, (∀ d, d ∈ ds → Tf d) → DpAll K H vs ds → DpAll K H' vs ds
  | _, _, _, .nil => .nil
  | _, _, t, .cons a b => .cons (Dp.keep e (t _ (List.mem_cons_self ..)) a) (DpAll.keep e (fun d hd => t d (List.mem_cons_of_mem _ hd)) b)
theorem dp_ints_inv {K : PySem.W.Frag} {H : Hp} : ∀ {ns : List Int} {vs : List V}, DpAll K H vs (ns.map PyData.int) → vs = ns.map V.int
  | [], _, .nil => rfl
  | n :: ns, _, .cons a b => by
    cases a
    rw [dp_ints_inv b]
    rfl
theorem Dp.tupInv {K : PySem.W.Frag} {H : Hp} {v : V} {ds : List PyData} (h : Dp K H v (.tuple ds)) : ∃ a xs, v = .ref a ∧ SqT K H a xs ∧ DpAll K H xs ds := by
  cases h with
  | tup h1 h2 => exact ⟨_, _, rfl, h1, h2⟩
theorem Dp.intsInv {K : PySem.W.Frag} {H : Hp} {v : V} {ns : List Int} (h : Dp K H v (.tuple (ns.map PyData.int))) : ∃ a, v = .ref a ∧ SqT K H a (ns.map V.int) := by
  obtain ⟨a, xs, e, h1, h2⟩ := Dp.tupInv h
  rw [dp_ints_inv h2] at h1
  exact ⟨a, e, h1⟩

/-! ### a comprehension that gives an item at each turn -/
theorem lc_all {K : PySem.W.Frag} {J : It} {n : Nat} {G : Hp → Prop} {Y : Nat → Hp → V → Hp → Prop} (w : Walk J n G Y) {g : TG} {tt : TT} {te : TE} {vs : List Nat} {σ : L2.St} {H1 : Hp} {D : Addr} {Qd : Hp → Prop}
    (ds : List PyData) (hl : ds.length = n) (ht : ∀ d, d ∈ ds → Tf d) (hn : n ≤ 1000) (hD : H1 D = none) (hG : ∀ H, Same H1 H → G H)
    (hs : ∀ i x H H', i < n → Same H1 H → Y i H x H' → ∀ d, ds[i]? = some d → ∀ R : V → Hp → Prop, (∀ y H4, Same H H4 → Dp K H4 y d → R y H4) →
      g x (wipe σ vs) H' fun σ2 H2 => wipe σ2 vs = wipe σ vs ∧ tt σ2 H2 fun b H3 => b = true ∧ te σ2 H3 R)
    (hd : ∀ H acc, Same H1 H → H D = some (.lst acc) → DpAll K H acc ds → Qd H)
    (mg : ∀ x σ' H' (Q Q' : L2.St → Hp → Prop), (∀ a b, Q a b → Q' a b) → g x σ' H' Q → g x σ' H' Q') (mt : ∀ σ' H' (Q Q' : Bool → Hp → Prop), (∀ a b, Q a b → Q' a b) → tt σ' H' Q → tt σ' H' Q') :
    ∃ W : Nat → Nat → Hp → Prop, (∃ m, W 0 m (upd H1 D (.lst []))) ∧ ∀ i m H, W i m H →
      (J.stop i H ∧ Qd H) ∨ (J.go i H ∧ ∃ Nx : Hp → Prop, (∀ H', Nx H' → ∃ m', m' < m ∧ W (i + 1) m' H') ∧ ∀ x H', J.yld i H x H' → g x (wipe σ vs) H' fun σ2 H2 => wipe σ2 vs = wipe σ vs ∧ tt σ2 H2 fun b H3 =>
        if b = true then te σ2 H3 fun y H4 => ∃ acc, H4 D = some (.lst acc) ∧ acc.length < sizeLine ∧ Nx (upd H4 D (.lst (acc ++ [y]))) else Nx H3) := by
  refine lc_it w (fun i H => Same H1 H ∧ ∃ acc, H D = some (.lst acc) ∧ DpAll K H acc (ds.take i)) ⟨same_upd hD, [], upd_same, .nil⟩ (fun i H _ h => hG H h.1) ?_ ?_
  · rintro i x H H' hi ⟨s1, acc, ha, hA⟩ hy
    have hd' : ds[i]? = some ds[i] := List.getElem?_eq_getElem (by omega)
    have hlen := DpAll.len hA
    rw [List.length_take] at hlen
    refine mg _ _ _ _ _ ?_ (hs i x H H' hi s1 hy ds[i] hd' (fun y H4 => ∃ acc, H4 D = some (.lst acc) ∧ acc.length < sizeLine ∧ (Same H1 (upd H4 D (.lst (acc ++ [y]))) ∧ ∃ acc', (upd H4 D (.lst (acc ++ [y]))) D = some (.lst acc') ∧ DpAll K (upd H4 D (.lst (acc ++ [y]))) acc' (ds.take (i + 1)))) ?_)
    · rintro σ2 H2 ⟨h1, h2⟩
      refine ⟨h1, mt _ _ _ _ ?_ h2⟩
      rintro b H3 ⟨rfl, h3⟩
      exact iteT h3
    · intro y H4 s4 hy4
      refine ⟨acc, s4 _ _ ha, sz61 (by omega), Same.mut (s1.trans s4) hD, acc ++ [y], upd_same, ?_⟩
      have kp : Keep K H4 (upd H4 D (.lst (acc ++ [y]))) := But.keep But.upd (s4 _ _ ha)
      rw [List.take_add_one, hd']
      refine DpAll.keep kp (fun d h => ?_) (DpAll.append (DpAll.same s4 hA) (.cons hy4 .nil))
      rcases List.mem_append.mp h with h | h
      · exact ht d (List.mem_of_mem_take h)
      · have e : d = ds[i] := by simpa using h
        rw [e]; exact ht _ (List.getElem_mem ..)
  · rintro H ⟨s1, acc, ha, hA⟩
    rw [List.take_of_length_le (by omega)] at hA
    exact hd H acc s1 ha hA

/-! ### tuples cut and joined -/
theorem cut_to {xs : List V} {k : Nat} (h : k ≤ xs.length) : cutV xs none (some (k : Int)) = xs.take k := by
  unfold cutV
  rw [HT.sIx_none, HT.sIx_nat, Nat.min_eq_left h]
  simp
theorem cut_from {xs : List V} {k : Nat} (h : k ≤ xs.length) : cutV xs (some (k : Int)) none = xs.drop k := by
  unfold cutV
  rw [HT.sIx_none, HT.sIx_nat, Nat.min_eq_left h]
  rw [List.take_of_length_le (by rw [List.length_drop]; omega)]
theorem sl_read {K : PySem.W.Frag} {H : Hp} {a : Addr} {xs : List V} {lo hi : Option Int} {Q : VK} (h : SqT K H a xs) (q : ∀ p H', Same H H' → SqT K H' p (cutV xs lo hi) → Q (.ref p) H') : rSlA K (.ref a) lo hi H Q := by
  refine ⟨a, xs, rfl, h, fun e => q a H (Same.refl H) ?_, fun _ p hp => q p _ (same_upd hp) (.inl (.inl upd_same))⟩
  unfold cutV
  rw [e.1, e.2]
  simpa using h
theorem cat_read {K : PySem.W.Frag} {H : Hp} {a b : Addr} {xs ys : List V} {Q : VK} (ha : SqT K H a xs) (hb : SqT K H b ys) (hz : xs.length + ys.length ≤ 100000) (q : ∀ p H', Same H H' → SqT K H' p (xs ++ ys) → Q (.ref p) H') : rCatA K (.ref a) (.ref b) H Q := by
  refine ⟨a, b, xs, ys, rfl, rfl, ha, hb, sz60 hz, fun e => q b H (Same.refl H) ?_, fun _ e => q a H (Same.refl H) ?_, fun _ _ p hp => q p _ (same_upd hp) (.inl (.inl upd_same))⟩
  · rw [e]; exact hb
  · rw [e, List.append_nil]; exact ha
theorem DpAll.snoc {K : PySem.W.Frag} {H : Hp} : ∀ {vs : List V} {ds : List PyData} {d : PyData}, DpAll K H vs (ds ++ [d]) → ∃ us v, vs = us ++ [v] ∧ DpAll K H us ds ∧ Dp K H v d
  | _, [], _, .cons a .nil => ⟨[], _, rfl, .nil, a⟩
  | _, _ :: ds, _, .cons a b => by
    obtain ⟨us, v, e, h1, h2⟩ := DpAll.snoc b
    exact ⟨_ :: us, v, by rw [e]; rfl, .cons a h1, h2⟩
theorem ixN_of {n j : Nat} (hj : j < n) : ixN n (j : Int) = some j := by
  unfold ixN
  rw [if_pos (by omega), if_pos (by omega)]
  simp
theorem vi_set (c : List Nat) (k v : Nat) : (vi c).set k (.int (v : Int)) = vi (c.set k v) := by
  unfold vi
  rw [List.map_set]
theorem vi_rep (n v : Nat) : vi (List.replicate n v) = List.replicate n (.int (v : Int)) := by simp [vi]

/-! ### [x for x in range(lo, hi) if ..] -/
theorem lc_fil {lo : Int} {n j : Nat} {vs : List Nat} {σ : L2.St} {H1 : Hp} {D : Addr} {Qd : Hp → Prop} {tt : TT} (f : Nat → Bool) (hn : n ≤ 1000) (hD : H1 D = none)
    (hw : ∀ x, wipe ((wipe σ vs).set j (some x)) vs = wipe σ vs) (hj : ∀ x : V, ((wipe σ vs).set j (some x))[j]? = some (some x))
    (ht : ∀ (i : Nat) H (Q : Bool → Hp → Prop), i < n → Same H1 H → Q (f i) H → tt ((wipe σ vs).set j (some (.int (lo + (i : Nat))))) H Q)
    (hd : ∀ H, Same H1 H → H D = some (.lst (((List.range n).filter f).map fun (i : Nat) => V.int (lo + (i : Nat)))) → Qd H) :
    ∃ W : Nat → Nat → Hp → Prop, (∃ m, W 0 m (upd H1 D (.lst []))) ∧ ∀ i m H, W i m H →
      ((Itr lo n).stop i H ∧ Qd H) ∨ ((Itr lo n).go i H ∧ ∃ Nx : Hp → Prop, (∀ H', Nx H' → ∃ m', m' < m ∧ W (i + 1) m' H') ∧ ∀ x H', (Itr lo n).yld i H x H' → gName j x (wipe σ vs) H' fun σ2 H2 => wipe σ2 vs = wipe σ vs ∧ tt σ2 H2 fun b H3 =>
        if b = true then tVar j σ2 H3 fun y H4 => ∃ acc, H4 D = some (.lst acc) ∧ acc.length < sizeLine ∧ Nx (upd H4 D (.lst (acc ++ [y]))) else Nx H3) := by
  refine lc_range (lo := lo) (n := n) (fun i H => Same H1 H ∧ H D = some (.lst (((List.range i).filter f).map fun (i : Nat) => V.int (lo + (i : Nat))))) ⟨same_upd hD, upd_same⟩ ?_ ?_
  · rintro i H hi ⟨s1, h1⟩
    refine ⟨hw _, ht i H _ hi s1 ?_⟩
    have hlen : (((List.range i).filter f).map fun (i : Nat) => V.int (lo + (i : Nat))).length ≤ i := by
      rw [List.length_map]
      have := List.length_filter_le f (List.range i)
      rw [List.length_range] at this
      exact this
    by_cases hf : f i = true
    · rw [hf]
      refine iteT ⟨_, hj _, _, h1, sz61 (by omega), Same.mut s1 hD, ?_⟩
      rw [List.range_succ, List.filter_append, List.map_append]
      simp only [List.filter_cons, hf, if_true, List.filter_nil, List.map_cons, List.map_nil]
      exact upd_same
    · have hf' : f i = false := by simpa using hf
      rw [hf']
      refine iteF ⟨s1, ?_⟩
      rw [List.range_succ, List.filter_append, List.map_append]
      simpa [hf'] using h1
  · rintro H ⟨s1, h1⟩
    exact hd H s1 h1
theorem iteB1 {b : Bool} {A B : Prop} (h : b = true) (a : A) : if b = true then A else B := by rw [if_pos h]; exact a
theorem iteB0 {b : Bool} {A B : Prop} (h : b = false) (a : B) : if b = true then A else B := by rw [if_neg (by rw [h]; decide)]; exact a

/-! ### deep comparisons -/
theorem lay_all : ∀ {ds : List PyData}, (∀ d, d ∈ ds → d.canLay0 = true) → PyData.canLayAll0 ds = true
  | [], _ => by simp [PyData.canLayAll0]
  | d :: ds, h => by
    simp only [PyData.canLayAll0]
    rw [h d (List.mem_cons_self ..), lay_all fun e he => h e (List.mem_cons_of_mem _ he)]; rfl
theorem dep_all {k : Nat} : ∀ {ds : List PyData}, (∀ d, d ∈ ds → d.depth ≤ k) → PyData.depthAll ds ≤ k
  | [], _ => by simp [PyData.depthAll]
  | d :: ds, h => by
    simp only [PyData.depthAll]
    have h1 := h d (List.mem_cons_self ..)
    have h2 := dep_all (k := k) fun e he => h e (List.mem_cons_of_mem _ he)
    omega
/-- plain data of at most so many levels -/
def Sh (k : Nat) (d : PyData) : Prop := d.canLay0 = true ∧ d.depth ≤ k
theorem Sh.shaped {k : Nat} {d : PyData} (h : Sh k d) (hk : k ≤ 64) : SeqAt.shaped d = true := by
  unfold SeqAt.shaped
  rw [h.1, decide_eq_true (by have := h.2; omega)]; rfl
theorem Sh.tup {k : Nat} {ds : List PyData} (h : ∀ d, d ∈ ds → Sh k d) : Sh (k + 1) (.tuple ds) :=
  ⟨by simp only [PyData.canLay0]; exact lay_all fun d hd => (h d hd).1, by simp only [PyData.depth]; have := dep_all (k := k) (ds := ds) fun d hd => (h d hd).2; omega⟩
theorem Sh.lst {k : Nat} {ds : List PyData} (h : ∀ d, d ∈ ds → Sh k d) : Sh (k + 1) (.list ds) :=
  ⟨by simp only [PyData.canLay0]; exact lay_all fun d hd => (h d hd).1, by simp only [PyData.depth]; have := dep_all (k := k) (ds := ds) fun d hd => (h d hd).2; omega⟩
theorem Sh.int (i : Int) {k : Nat} : Sh k (.int i) := ⟨by simp [PyData.canLay0], by simp [PyData.depth]⟩
theorem Sh.ints {k : Nat} (ns : List Int) : ∀ d, d ∈ ns.map PyData.int → Sh k d := fun d h => by
  obtain ⟨i, _, rfl⟩ := List.mem_map.mp h
  exact .int i
theorem eq_data {K : PySem.W.Frag} {H : Hp} {x y : V} {d : PyData} {Q : VK} {k : Nat} (hx : Dp K H x d) (hy : Dp K H y d) (hs : Sh k d) (hk : k ≤ 64) (q : Q (.bl true) H) : rEqD K x y H Q :=
  ⟨d, d, hx, hy, hs.shaped hk, hs.shaped hk, by rw [SeqAt.eqv_refl d hs.1]; exact q⟩
theorem ne_data {K : PySem.W.Frag} {H : Hp} {x y : V} {d : PyData} {Q : VK} {k : Nat} (hx : Dp K H x d) (hy : Dp K H y d) (hs : Sh k d) (hk : k ≤ 64) (q : Q (.bl false) H) : rNeD K x y H Q :=
  ⟨d, d, hx, hy, hs.shaped hk, hs.shaped hk, by rw [SeqAt.eqv_refl d hs.1]; exact q⟩
theorem dp_tup {K : PySem.W.Frag} {H : Hp} {a : Addr} {ns : List Int} (h : SqT K H a (ns.map V.int)) : Dp K H (.ref a) (.tuple (ns.map PyData.int)) := .tup h (dp_ints ns)
theorem ne_ints {K : PySem.W.Frag} {H : Hp} {a b : Addr} {ns : List Int} {Q : VK} (ha : SqT K H a (ns.map V.int)) (hb : SqT K H b (ns.map V.int)) (q : Q (.bl false) H) : rNeD K (.ref a) (.ref b) H Q :=
  ne_data (dp_tup ha) (dp_tup hb) (Sh.tup (k := 0) (Sh.ints ns)) (by decide) q
end MB

set_option maxHeartbeats 4000000
namespace MB
open PySem PySem.Spec PyProof.Rows L2

/-! ### a def called where no repr is under way -/
structure FnG (P : Program) (w : World) (K : PySem.W.Frag) (mg : Str → Option Value) (base : Heap) (CX : CXT) (k : Nat) (f : Addr) (fd : FuncData) (ps : List Str) (sp : Sp) : Prop where
  len : ∀ vs H Q E, sp vs H Q E → vs.length = ps.length
  run : ∀ (A : Around), A.guards = some [] → Room k A → ∀ (outer : List Env) (s : Shared) (H : Hp) (args : Args) (us : List Value) (vs : List V) (Q : VK) (E : XK),
    Env0 P w K mg base A outer s H → BindsTo s fd args (ps.zip us) → Vals vs us → sp vs H Q E → codeAny (model P w) A (.call (.ref f) args) (CR CX outer P w H s Q E) s
section
variable {P : Program} {w : World} {K : PySem.W.Frag} {mg : Str → Option Value} {base : Heap} {CX : CXT} {k : Nat} {f : Addr} {fd : FuncData} {ps : List Str} {sp : Sp}
theorem FnG.of (F : FnOk P w K mg base CX k f fd ps sp) : FnG P w K mg base CX k f fd ps sp :=
  ⟨F.len, fun A _ hr outer s H args us vs Q E => F.run A outer s H args us vs Q E hr⟩
theorem deeper_guards {A : Around} {env : Env} (h : A.guards = some []) : (A.deeper env).guards = some [] := h
theorem fnG_of {name qual : Str} {params : Arguments} {body : List Stmt} {scope : Scope} {dV kV doc pm cdv ct oc : Value} {an od : Option Addr} {osl : Array (Option Value)} {N : List Str}
    (lk : K.lookup f = some ⟨oc, od, .func (PySem.W.fnOf name qual params body scope dV kV doc pm an cdv ct), osl⟩) (hcd : PySem.W.codeIn K cdv qual = true) (S : FnScope N ps scope)
    (len : ∀ vs H Q E, sp vs H Q E → vs.length = ps.length)
    (hbody : ∀ (A : Around), A.guards = some [] → ∀ (outer : List Env) (s : Shared) (H : Hp) (vs : List V) (Q : VK) (E : XK), Room k (A.deeper (envOfC qual scope s.heap.objs.size f cdv)) → sp vs H Q E →
      ∃ t, PSs (cxOf CX P w K mg base N qual scope f cdv A outer s H E) body t ∧ t { nx := fun _ H' => Q .non H', rt := Q } (start N vs) H) :
    FnG P w K mg base CX (k + 1) f (PySem.W.fnOf name qual params body scope dV kV doc pm an cdv ct) ps sp := by
  refine ⟨len, fun A hgd hr outer s H args us vs Q E e0 hb r hsp => ?_⟩
  have kept : ∀ b o, base.get? b = some o → s.heap.get? b = some o := fun b o e => (e0.bs b o e).1
  have KX : K.In s.heap := e0.mod.kin.keeps kept
  obtain ⟨t, ht, hq⟩ := hbody A hgd outer s H vs Q E (hr.deeper _) hsp
  have par : ∀ y ∈ ps.zip us, scope.names.lookup y.1 = some .local ∨ (scope.names.lookup y.1 = some .cell ∧ ((cellsFrom (s.heap.objs.size + 1) scope.names []).lookup y.1).isSome = true) := by
    rintro ⟨n, v⟩ hy
    exact (S.par n (List.of_mem_zip hy).1).imp id fun z => ⟨z, PySem.W.cellsFrom_some _ _ _ (.inl z)⟩
  refine codeAny_call_function hr.depth (KX _ _ lk) rfl S.co S.gen rfl (PySem.W.codeRec_of KX hcd) (hb _ _ _ _ (wpAny_newFunctionEnv_cells S.kind par fun env he s1 x => ?_))
  subst he
  refine ⟨(e0.mod.nolimit.keeps kept).keeps x.toInCall.keep, codeAny_func (wpAny_mono (ht.run [] s1 (start N vs) H _ (inv_start S hr.hd e0 (len _ _ _ _ hsp) r x) hq) (fun fl s' hs => ?_) fun e s' hs => hs)⟩
  rcases fl with _ | _ | _ | u
  · obtain ⟨σ', H', J, q⟩ := hs
    exact ⟨V.non, H', J.os, J.bare, J.base, J.hok, rfl, q⟩
  · exact (let ⟨_, _, _, q⟩ := hs; False.elim q)
  · exact (let ⟨_, _, _, q⟩ := hs; False.elim q)
  · obtain ⟨v, σ', H', J, rv, q⟩ := hs
    exact ⟨v, H', J.os, J.bare, J.base, J.hok, rv, q⟩
theorem Fun.okG {x qual : Str} {st : Stmt} {N : List Str} (F : L2.Fun K x qual st f fd) (S : FnScope N ps (defScope st)) (len : ∀ vs H Q E, sp vs H Q E → vs.length = ps.length)
    (hbody : ∀ (cdv : Value) (A : Around), A.guards = some [] → ∀ (outer : List Env) (s : Shared) (H : Hp) (vs : List V) (Q : VK) (E : XK), Room k (A.deeper (envOfC qual (defScope st) s.heap.objs.size f cdv)) → sp vs H Q E →
      ∃ t, PSs (cxOf CX0 P w K mg base N qual (defScope st) f cdv A outer s H E).nox (defBody st) t ∧ t { nx := fun _ H' => Q .non H', rt := Q } (start N vs) H) : FnG P w K mg base CX0 (k + 1) f fd ps sp := by
  obtain ⟨oc, od, kV, doc, pm, an, cdv, ct, osl, rfl, lk, hcd⟩ := F.ex
  exact fnG_of lk hcd S len fun A hgd outer s H vs Q E hr hsp => let ⟨t, h, q⟩ := hbody cdv A hgd outer s H vs Q E hr hsp; ⟨t, h.nox, q⟩
end
section
variable {X : Cx} {CX : CXT} {k : Nat} {f : Addr} {fd : FuncData} {ps : List Str} {sp : Sp} {ds : List Value} {dvs : List V} {E : XK} {x : Str} {p pos : Pos} {e : Expr} {es : List Expr} {t : TA}
theorem pe_callG (F : FnG X.prog X.w X.K X.mg X.base CX k f fd ps sp) (hgd : X.A.guards = some []) (hr : Room k X.A) (hg : Gl X x) (hm : X.mg x = some (.ref f)) (hk : PySem.W.keepIn X.K (.ref f) = true) (hb : Binds X.K fd ps ds) (hd : Vals dvs ds) (hx : Passes CX X E)
    (ha : PA X (e :: es) t) (hdb : (x == ("__debug__" : Str)) = false := by decide) (he : starEach (e :: es) X.env = (false, eval e X.env) :: starEach es X.env := by rfl) (hpl : (backTo pos (starEach es X.env)).any (·.1) = false := by rfl) :
    PE X (.Call (.Name x p) (e :: es) [] pos) (tCall sp dvs E t) := by
  refine ⟨fun pins s σ H Q I h => wpAny_Call_Name_kw (ld_glob I hg hm (PySem.W.callWith_K (h₀ := X.base) I.ok.mod.kin hk (thn (ha.run pos pins s σ H _ I h) fun us s1 ⟨vs, H1, I1, r, q⟩ => ⟨I1.kIn, ?_⟩) he hpl) hdb)⟩
  have r2 : Vals (vs ++ dvs) (us ++ ds) := r.append hd
  have hl : (us ++ ds).length = ps.length := r2.length.symm.trans (F.len _ _ _ _ q)
  refine wpAny_call (codeAny_mono (F.run X.A hgd hr X.stack s1 H1 ⟨us, []⟩ (us ++ ds) (vs ++ dvs) Q E I1.env0 (hb s1 us I1.kIn hl) r2 q) fun res s' hq => ?_)
  rcases res with e | fl
  · exact hx pins σ H1 s1 e s' I1 hq
  · rcases fl with _ | _ | _ | u
    · exact False.elim hq
    · exact False.elim hq
    · exact False.elim hq
    · exact I1.after hq
end

/-! ### repr of plain data -/
def rReprD (K : PySem.W.Frag) : List V → Hp → VK → Prop := fun xs H Q => ∃ (x : V) (d : PyData), xs = [x] ∧ Dp K H x d ∧ d.canLay0 = true ∧ d.showable = true ∧ d.depth ≤ 60 ∧ d.shown.length ≤ sizeLine ∧ Q (.str d.shown) H
theorem call_reprD {X : Cx} (hgd : X.A.guards = some []) (hu : X.A.units + 64 < cLine) : CallR X (.builtin "repr") (rReprD X.K) := by
  intro pins s σ H xs us Q I r h
  obtain ⟨x, d, rfl, hd, hc, hs, hdep, hz, q⟩ := h
  obtain ⟨u, rfl, rx⟩ := vals1 r
  obtain ⟨as, rd⟩ := Dp.reads I d x u hd rx
  have nd := PyData.hasDict_of_canLay d hc
  have fin : ∀ (h' : Heap) (v tk : Tok), (∀ b o, s.heap.get? b = some o → h'.get? b = some o) → EP X pins σ Q (.str d.shown v) { s with heap := h', toks := tk } := fun h' v tk hk => ⟨.str d.shown, H, I.kept hk, ⟨_, rfl⟩, q⟩
  cases rd with
  | none => exact PySem.P.repr_of_none (fin _ _ _ fun _ _ e => e)
  | bool b =>
    refine PySem.P.repr_of_bool ?_
    cases b <;> exact fin s.heap s.toks (s.toks + 1) fun _ _ e => e
  | int i t => exact PySem.P.repr_of_int (by simpa [PyData.showable] using hs) (fin s.heap s.toks (s.toks + 1) fun _ _ e => e)
  | str y t => exact PySem.P.repr_of_str (fin s.heap s.toks (s.toks + 1) fun _ _ e => e) hz
  | list h1 h2 h3 h4 => exact repr_of_reads' (.list h1 h2 h3 h4) hs (PyData.noDict_hsm nd) hgd (by omega) (fun _ _ e => e) fin hz
  | tuple h1 h2 h3 h4 => exact repr_of_reads' (.tuple h1 h2 h3 h4) hs (PyData.noDict_hsm nd) hgd (by omega) (fun _ _ e => e) fin hz
  | dict h1 h2 h3 h4 h5 => simp [PyData.canLay0] at hc

/-! ### the end: a law whose promise asks that no repr is under way -/
theorem law_callG {P : Program} {w : World} {K : PySem.W.Frag} {mg mb : Str → Option Value} {k : Nat} {fa a : Addr} {fd : FuncData} {x : Str} {sp : Sp} {s₁ : Shared} {vs : List Value} {ns : List Int}
    (KX : K.In s₁.heap) (hns : s₁.heap.Ns mainGlobals mg) (hb : s₁.heap.Ns builtinsNs mb) (hbb : ∀ x : Str, x ≠ "__name__" → mb x = bootBuiltins x) (hlim : s₁.heap.NoLimit) (hg : s₁.gens = #[])
    (ha : s₁.heap.get? a = some { cls := .type "list", data := .seq vs.toArray }) (hi : IntsAre vs ns) (hl : ns.length ≤ sizeLine) (hr : Room k callerA)
    (F : ∀ base : Heap, K.In base → base.Ns mainGlobals mg → FnG P w K mg base CX0 k fa fd [x] sp) (hbind : ∀ (s : Shared) (u : Value), BindsTo s fd ⟨[u], []⟩ [(x, u)])
    (hsp : ∀ H : Hp, SqL K H a (ns.map V.int) → sp [.ref a] H (fun v _ => v = .bl true) fun _ _ _ => False) :
    codeAny (model P w) callerA (.call (.ref fa) ⟨[.ref a], []⟩) (fun r s' => r = .ok (.ret (.bool true)) ∧ OldK s₁.heap s'.heap ∧ s'.os = s₁.os ∧ AllBare s'.gens) s₁ := by
  let oS : Obj := { cls := .type "list", data := .seq vs.toArray }
  -- the script is tracked as it stands, unless it is one of the module's own objects
  let H : Hp := fun b => if b = a ∧ K.lookup a = none then some (.frz oS (.lst (ns.map V.int))) else none
  have rv := vals_ints hi
  have Hsome : ∀ {b : Addr} {o : HO}, H b = some o → b = a ∧ K.lookup a = none ∧ o = .frz oS (.lst (ns.map V.int)) := fun {b o} e => by
    by_cases c : b = a ∧ K.lookup a = none
    · have e' := (if_pos c).symm.trans e
      exact ⟨c.1, c.2, (Option.some.inj e').symm⟩
    · have e' := (if_neg c).symm.trans e
      cases e'
  have free : ∀ {b : Addr}, (∀ z : b = a, K.lookup a ≠ none) → H b = none := fun {b} n => if_neg fun c => n c.1 c.2
  have hS : SqL K H a (ns.map V.int) := by
    cases hk : K.lookup a with
    | none => exact .inl (.inr ⟨oS, if_pos ⟨rfl, hk⟩⟩)
    | some o =>
      have e := (KX a o hk).symm.trans ha
      cases e
      exact .inr ⟨_, vs.toArray, _, hk, rfl, rfl, rfl, by rw [List.size_toArray, hi.length]; exact hl, by simpa using rv⟩
  have hok : HOk P w H s₁.heap := fun b o e => by
    obtain ⟨rfl, _, rfl⟩ := Hsome e
    exact ⟨ha, by rw [List.length_map]; exact hl, vs, _, rv, ha⟩
  have noDict : ∀ {b : Addr} {o : Obj} {es : Array DictEntry} {ep : Nat}, s₁.heap.get? b = some o → o.data = .dict es ep → H b = none := fun {b o es ep} e d => free fun z => by
    subst z
    rw [ha] at e
    cases e
    cases d
  have ns_hid : ∀ {b : Addr} {m : Str → Option Value}, s₁.heap.Ns b m → (hidT s₁.heap H).Ns b m := fun {b m} ⟨o, es, ep, e, d, r⟩ => ⟨o, es, ep, hidT_get e (noDict e d), d, r⟩
  have hKb : K.In (hidT s₁.heap H) := fun b o e => hidT_get (KX b o e) (free fun z => by subst z; rw [e]; exact fun y => nomatch y)
  have hM : Mod K mg (hidT s₁.heap H) := ⟨hKb, ns_hid hns, ⟨mb, ns_hid hb, hbb⟩, let ⟨mc, h1, h2⟩ := hlim; ⟨mc, ns_hid h1, h2⟩⟩
  have e0 : Env0 P w K mg (hidT s₁.heap H) callerA [] s₁ H := ⟨rfl, hM, fun b o e => of_hidT e, Nat.le_of_eq (hidT_size _ _), trivial, (fun b hb => absurd (show b ∈ ([] : List Addr) from hb) (by simp)), hok, .of_eq hg⟩
  refine codeAny_mono ((F _ hKb (ns_hid hns)).run callerA rfl hr [] s₁ H ⟨[.ref a], []⟩ [.ref a] [.ref a] _ _ e0 (hbind s₁ (.ref a)) (.cons rfl .nil) (hsp H hS)) fun r s' h => ?_
  rcases r with e | fl
  · exact False.elim h
  rcases fl with _ | _ | _ | u
  · exact False.elim h
  · exact False.elim h
  · exact False.elim h
  obtain ⟨v, H', os, bare, un, hok', r', q⟩ := h
  have q' : v = .bl true := q
  subst q'
  obtain rfl : u = Value.bool true := r'
  refine ⟨rfl, OldK.of_keep fun b o e => ?_, os, bare⟩
  cases hb' : H b with
  | none => exact un.keep b o e hb' (fun z => absurd (show b ∈ ([] : List Addr) from z) (by simp)) (by simp)
  | some u =>
    obtain ⟨rfl, hk, rfl⟩ := Hsome hb'
    have e2 := (hok' _ _ (un.frzs _ oS _ hb')).1
    rw [ha] at e
    cases e
    exact e2
theorem walk_ofG {l : PySem.W.OpenLaw} {n k : Nat} {q : Program} {loose : List Str} {XP : (Str → Option Value) → Heap → Prop} {YP : World → Heap → Prop} {d : DefRec} {K : Params → PySem.W.Frag} {sp : PySem.W.Frag → Sp} {x : Str}
    (hn : l.most = some n) (hn2 : n ≤ sizeLine) (hdf : d.params.defaults = []) (hr : Room k callerA)
    (hY : ∀ (w : World) (h : Heap), YP w h → (K w.params).In h)
    (F : ∀ (w : World) (mg : Str → Option Value) (fa : Addr) (h : Heap), (K w.params).In h → h.Ns mainGlobals mg → mg d.name = some (.ref fa) →
      ∃ fd : FuncData, (∀ (s : Shared) (u : Value), BindsTo s fd ⟨[u], []⟩ [(x, u)]) ∧
        ∀ base : Heap, (K w.params).In base → base.Ns mainGlobals mg → FnG l.prog w (K w.params) mg base CX0 k fa fd [x] (sp (K w.params)))
    (hsp : ∀ (K : PySem.W.Frag) (H : Hp) (a : Addr) (ns : List Int), ns.length ≤ n → SqL K H a (ns.map V.int) → sp K [.ref a] H (fun v _ => v = .bl true) fun _ _ _ => False) :
    PySem.W.WalkO q loose XP YP l.row.toRowW d [] (fun f vs => PySem.call f vs) :=
  Att.attach_call hn hdf fun w s₀ s₁ mg mb fa o pm cd doc a vs ns G Y ho hd hcd hmg hobj hints hlen hg =>
    have KX := hY w _ Y
    let ⟨fd, hb, hF⟩ := F w mg fa _ KX G.T.g hmg
    law_callG KX G.T.g G.T.b G.T.builtins G.T.nolimit hg hobj hints (Nat.le_trans hlen hn2) hr hF hb fun H hS => hsp _ H a ns hlen hS
end MB

set_option maxHeartbeats 4000000
namespace MB
open PySem PySem.Spec PyProof.Rows L2
/-- data whose repr is asked: levels, size -/
structure Rp (k n : Nat) (d : PyData) : Prop where
  sh : Sh k d
  shw : d.showable = true
  short : d.leavesShort 13 = true
  bulk : d.bulk ≤ n
theorem Rp.mono {k n m : Nat} {d : PyData} (h : Rp k n d) (e : n ≤ m) : Rp k m d := ⟨h.sh, h.shw, h.short, Nat.le_trans h.bulk e⟩
theorem Rp.int {i : Int} {k : Nat} (h : i.natAbs < 1000000) : Rp k 0 (.int i) := by
  refine ⟨.int i, ?_, ?_, by simp [PyData.bulk]⟩
  · simp only [PyData.showable]
    refine decide_eq_true ?_
    by_cases h0 : i.natAbs = 0
    · rw [h0]; decide
    · exact Nat.lt_trans ((Nat.log2_lt h0).mpr (show i.natAbs < 2 ^ 20 by omega)) (by decide)
  · simp only [PyData.leavesShort]
    refine decide_eq_true ?_
    have e := int_text_length_le10 (a := i) (k := 6) (by decide) h
    have e2 : (PyData.shown (.int i)).length = (toString i).length := by
      simp only [PyData.shown]
      exact PySem.ofString_length _
    omega
theorem rp_all {k n : Nat} : ∀ {ds : List PyData}, (∀ d, d ∈ ds → Rp k n d) → PyData.showableAll ds = true ∧ PyData.leavesShortAll 13 ds = true ∧ PyData.bulkAll ds ≤ (n + 1) * ds.length
  | [], _ => ⟨by simp [PyData.showableAll], by simp [PyData.leavesShortAll], by simp [PyData.bulkAll]⟩
  | d :: ds, h => by
    have h1 := h d (List.mem_cons_self ..)
    obtain ⟨a, b, c⟩ := rp_all fun e he => h e (List.mem_cons_of_mem _ he)
    refine ⟨by simp only [PyData.showableAll, h1.shw, a, Bool.and_self], by simp only [PyData.leavesShortAll, h1.short, b, Bool.and_self], ?_⟩
    simp only [PyData.bulkAll, List.length_cons]
    have := h1.bulk
    rw [Nat.mul_add]
    omega
theorem Rp.tup {k n m : Nat} {ds : List PyData} (h : ∀ d, d ∈ ds → Rp k n d) (hm : (n + 1) * ds.length ≤ m) : Rp (k + 1) m (.tuple ds) := by
  obtain ⟨a, b, c⟩ := rp_all h
  exact ⟨Sh.tup fun d hd => (h d hd).sh, by simp only [PyData.showable]; exact a, by simp only [PyData.leavesShort]; exact b, by simp only [PyData.bulk]; omega⟩
theorem Rp.lst {k n m : Nat} {ds : List PyData} (h : ∀ d, d ∈ ds → Rp k n d) (hm : (n + 1) * ds.length ≤ m) : Rp (k + 1) m (.list ds) := by
  obtain ⟨a, b, c⟩ := rp_all h
  exact ⟨Sh.lst fun d hd => (h d hd).sh, by simp only [PyData.showable]; exact a, by simp only [PyData.leavesShort]; exact b, by simp only [PyData.bulk]; omega⟩
theorem Rp.ints {ns : List Int} {k m : Nat} (h : ∀ i, i ∈ ns → i.natAbs < 1000000) (hm : ns.length ≤ m) : Rp (k + 1) m (.tuple (ns.map PyData.int)) :=
  Rp.tup (n := 0) (fun d hd => by obtain ⟨i, hi, rfl⟩ := List.mem_map.mp hd; exact .int (h i hi)) (by rw [List.length_map]; omega)
theorem Rp.bool {b : Bool} {k : Nat} : Rp k 0 (.bool b) := ⟨⟨by simp [PyData.canLay0], by simp [PyData.depth]⟩, by simp [PyData.showable], by simp [PyData.leavesShort], by simp [PyData.bulk]⟩
/-- repr(x), by data -/
theorem repr_read {K : PySem.W.Frag} {H : Hp} {x : V} {d : PyData} {Q : VK} {k n : Nat} (hd : Dp K H x d) (hs : Rp k n d) (hk : k ≤ 60) (hn : n ≤ 1048576) (q : Q (.str d.shown) H) : rReprD K [x] H Q :=
  ⟨x, d, rfl, hd, hs.sh.1, hs.shw, Nat.le_trans hs.sh.2 hk, PyData.shown_fits_bulk (B := 13) (by decide) (by decide) hs.short (Nat.le_trans hs.bulk (by omega)), q⟩
theorem Rp.all {k n : Nat} {d : PyData} (hs : Rp k n d) (hk : k ≤ 60) (hn : n ≤ 1048576) : d.canLay0 = true ∧ d.showable = true ∧ d.depth ≤ 60 ∧ d.shown.length ≤ sizeLine :=
  ⟨hs.sh.1, hs.shw, Nat.le_trans hs.sh.2 hk, PyData.shown_fits_bulk (B := 13) (by decide) (by decide) hs.short (Nat.le_trans hs.bulk (by omega))⟩
end MB

set_option maxHeartbeats 4000000
namespace MB
open PySem PySem.Spec PyProof.Rows L2
/-- data whose repr is asked: levels, size -/
structure RpW (k n : Nat) (d : PyData) : Prop where
  sh : Sh k d
  shw : d.showable = true
  short : d.leavesShort  75 = true
  bulk : d.bulk ≤ n
theorem RpW.mono {k n m : Nat} {d : PyData} (h : RpW k n d) (e : n ≤ m) : RpW k m d := ⟨h.sh, h.shw, h.short, Nat.le_trans h.bulk e⟩
theorem RpW.int {i : Int} {k : Nat} (h : i.natAbs < 10 ^ 70) : RpW k 0 (.int i) := by
  refine ⟨.int i, ?_, ?_, by simp [PyData.bulk]⟩
  · simp only [PyData.showable]
    refine decide_eq_true ?_
    by_cases h0 : i.natAbs = 0
    · rw [h0]; decide
    · exact Nat.lt_trans ((Nat.log2_lt h0).mpr (show i.natAbs < 2 ^ 240 by exact Nat.lt_trans h (by decide +kernel))) (by decide)
  · simp only [PyData.leavesShort]
    refine decide_eq_true ?_
    have e := int_text_length_le10 (a := i) (k := 70) (by decide) h
    have e2 : (PyData.shown (.int i)).length = (toString i).length := by
      simp only [PyData.shown]
      exact PySem.ofString_length _
    omega
theorem rpW_all {k n : Nat} : ∀ {ds : List PyData}, (∀ d, d ∈ ds → RpW k n d) → PyData.showableAll ds = true ∧ PyData.leavesShortAll  75 ds = true ∧ PyData.bulkAll ds ≤ (n + 1) * ds.length
  | [], _ => ⟨by simp [PyData.showableAll], by simp [PyData.leavesShortAll], by simp [PyData.bulkAll]⟩
  | d :: ds, h => by
    have h1 := h d (List.mem_cons_self ..)
    obtain ⟨a, b, c⟩ := rpW_all fun e he => h e (List.mem_cons_of_mem _ he)
    refine ⟨by simp only [PyData.showableAll, h1.shw, a, Bool.and_self], by simp only [PyData.leavesShortAll, h1.short, b, Bool.and_self], ?_⟩
    simp only [PyData.bulkAll, List.length_cons]
    have := h1.bulk
    rw [Nat.mul_add]
    omega
theorem RpW.tup {k n m : Nat} {ds : List PyData} (h : ∀ d, d ∈ ds → RpW k n d) (hm : (n + 1) * ds.length ≤ m) : RpW (k + 1) m (.tuple ds) := by
  obtain ⟨a, b, c⟩ := rpW_all h
  exact ⟨Sh.tup fun d hd => (h d hd).sh, by simp only [PyData.showable]; exact a, by simp only [PyData.leavesShort]; exact b, by simp only [PyData.bulk]; omega⟩
theorem RpW.lst {k n m : Nat} {ds : List PyData} (h : ∀ d, d ∈ ds → RpW k n d) (hm : (n + 1) * ds.length ≤ m) : RpW (k + 1) m (.list ds) := by
  obtain ⟨a, b, c⟩ := rpW_all h
  exact ⟨Sh.lst fun d hd => (h d hd).sh, by simp only [PyData.showable]; exact a, by simp only [PyData.leavesShort]; exact b, by simp only [PyData.bulk]; omega⟩
theorem RpW.ints {ns : List Int} {k m : Nat} (h : ∀ i, i ∈ ns → i.natAbs < 10 ^ 70) (hm : ns.length ≤ m) : RpW (k + 1) m (.tuple (ns.map PyData.int)) :=
  RpW.tup (n := 0) (fun d hd => by obtain ⟨i, hi, rfl⟩ := List.mem_map.mp hd; exact .int (h i hi)) (by rw [List.length_map]; omega)
theorem RpW.bool {b : Bool} {k : Nat} : RpW k 0 (.bool b) := ⟨⟨by simp [PyData.canLay0], by simp [PyData.depth]⟩, by simp [PyData.showable], by simp [PyData.leavesShort], by simp [PyData.bulk]⟩
theorem fits75 {d : PyData} (hl : d.leavesShort 75 = true) (hw : d.bulk ≤ 100000) : d.shown.length ≤ sizeLine := by
  have h := PyData.shown_le_bulk 75 (by decide) d hl
  have h2 : (75 + 2) * d.bulk ≤ 77 * 100000 := Nat.mul_le_mul (by omega) (by omega)
  have e : sizeLine = 16777216 := by decide
  omega
/-- repr(x), by data -/
theorem reprW_read {K : PySem.W.Frag} {H : Hp} {x : V} {d : PyData} {Q : VK} {k n : Nat} (hd : Dp K H x d) (hs : RpW k n d) (hk : k ≤ 60) (hn : n ≤ 100000) (q : Q (.str d.shown) H) : rReprD K [x] H Q :=
  ⟨x, d, rfl, hd, hs.sh.1, hs.shw, Nat.le_trans hs.sh.2 hk, fits75 hs.short (Nat.le_trans hs.bulk hn), q⟩
theorem RpW.all {k n : Nat} {d : PyData} (hs : RpW k n d) (hk : k ≤ 60) (hn : n ≤ 100000) : d.canLay0 = true ∧ d.showable = true ∧ d.depth ≤ 60 ∧ d.shown.length ≤ sizeLine :=
  ⟨hs.sh.1, hs.shw, Nat.le_trans hs.sh.2 hk, fits75 hs.short (Nat.le_trans hs.bulk hn)⟩
end MB

set_option maxHeartbeats 4000000
namespace MB
open PySem PySem.Spec PyProof.Rows L2

/-! ### f(p = v), no value by position -/
def gK {α : Type} (us ws : List α) : List α := match us with
  | [] => ws
  | _ :: _ => []
section
variable {X : Cx} {CX : CXT} {k : Nat} {f : Addr} {fd : FuncData} {ps ks : List Str} {sp : Sp} {E : XK} {x : Str} {p pos : Pos} {kws : List Keyword} {tk : TA} {g : List Value → List Value → List Value} {gV : List V → List V → List V}
theorem pe_callK0 (F : FnOk X.prog X.w X.K X.mg X.base CX k f fd ps sp) (hr : Room k X.A) (hg : Gl X x) (hm : X.mg x = some (.ref f)) (hk : PySem.W.keepIn X.K (.ref f) = true) (hb : KBinds X.K fd ps ks g gV) (hx : Passes CX X E)
    (hkw : PK X kws tk) (hall : (backToKw pos (keywordEach kws X.env)).all (·.1.isSome) = true := by rfl) (hks : (backToKw pos (keywordEach kws X.env)).filterMap (·.1) = ks := by rfl)
    (hdb : (x == ("__debug__" : Str)) = false := by decide)
    (hpl : ((backTo pos (starEach [] X.env)).any (·.1) || (backToKw pos (keywordEach kws X.env)).any (·.1.isNone)) = false := by rfl) :
    PE X (.Call (.Name x p) [] kws pos) (tCallK sp gV E tNil tk) := by
  refine ⟨fun pins s σ H Q I h => ?_⟩
  refine wpAny_Call_Name_kw (ld_glob I hg hm ?_ hdb)
  refine PySem.W.callWith_KW0 (h₀ := X.base) I.ok.mod.kin hk hall ?_ hpl
  refine thn (hkw.run pos pins s σ H _ I h) fun ws s2 ⟨zs, H2, I2, rz, q2⟩ => ⟨I2.kIn, ?_⟩
  rw [hks]
  exact run_fnk (us := []) (vs := []) F hr hb hx I2 .nil rz q2
end
theorem kb1 {K : PySem.W.Frag} {x qual : Str} {st : Stmt} {f : Addr} {fd : FuncData} {q : Str} (F : L2.Fun K x qual st f fd)
    (h : ∀ (kV doc pm : Value) (an : Option Addr) (cdv ct u : Value), bindArgs (PySem.W.fnOf x qual (defArgs st) (defBody st) (defScope st) .none kV doc pm an cdv ct) ⟨[], [(q, u)]⟩ = pure [(q, u)]) : KBinds K fd [q] [q] gK gK := by
  obtain ⟨oc, od, kV, doc, pm, an, cdv, ct, osl, rfl, lk, hcd⟩ := F.ex
  refine ⟨fun s us ws _ hl => ?_, fun {vs us zs ws} r1 r2 => ?_⟩
  · cases us with
    | cons u us => exact nomatch hl
    | nil =>
      match ws, hl with
      | [u], _ => exact .of_eq (h kV doc pm an cdv ct u)
  · cases r1 with
    | nil => exact r2
    | cons _ _ => exact .nil

/-! ### a comprehension with a test -/
theorem lc_sel {K : PySem.W.Frag} {J : It} {n : Nat} {G : Hp → Prop} {Y : Nat → Hp → V → Hp → Prop} (w : Walk J n G Y) {g : TG} {tt : TT} {te : TE} {vs : List Nat} {σ : L2.St} {H1 : Hp} {D : Addr} {Qd : Hp → Prop}
    (f : Nat → Bool) (d : Nat → PyData) (ht : ∀ i, i < n → Tf (d i)) (hn : n ≤ 1000) (hD : H1 D = none) (hG : ∀ H, Same H1 H → G H)
    (hs : ∀ i x H H', i < n → Same H1 H → Y i H x H' → ∀ R : V → Hp → Prop, (∀ y H4, Same H H4 → Dp K H4 y (d i) → R y H4) →
      g x (wipe σ vs) H' fun σ2 H2 => wipe σ2 vs = wipe σ vs ∧ tt σ2 H2 fun b H3 => b = f i ∧ Same H H3 ∧ (b = true → te σ2 H3 R))
    (hd : ∀ H acc, Same H1 H → H D = some (.lst acc) → DpAll K H acc (((List.range n).filter f).map d) → Qd H)
    (mg : ∀ x σ' H' (Q Q' : L2.St → Hp → Prop), (∀ a b, Q a b → Q' a b) → g x σ' H' Q → g x σ' H' Q') (mt : ∀ σ' H' (Q Q' : Bool → Hp → Prop), (∀ a b, Q a b → Q' a b) → tt σ' H' Q → tt σ' H' Q') :
    ∃ W : Nat → Nat → Hp → Prop, (∃ m, W 0 m (upd H1 D (.lst []))) ∧ ∀ i m H, W i m H →
      (J.stop i H ∧ Qd H) ∨ (J.go i H ∧ ∃ Nx : Hp → Prop, (∀ H', Nx H' → ∃ m', m' < m ∧ W (i + 1) m' H') ∧ ∀ x H', J.yld i H x H' → g x (wipe σ vs) H' fun σ2 H2 => wipe σ2 vs = wipe σ vs ∧ tt σ2 H2 fun b H3 =>
        if b = true then te σ2 H3 fun y H4 => ∃ acc, H4 D = some (.lst acc) ∧ acc.length < sizeLine ∧ Nx (upd H4 D (.lst (acc ++ [y]))) else Nx H3) := by
  refine lc_it w (fun i H => Same H1 H ∧ ∃ acc, H D = some (.lst acc) ∧ DpAll K H acc (((List.range i).filter f).map d)) ⟨same_upd hD, [], upd_same, .nil⟩ (fun i H _ h => hG H h.1) ?_ ?_
  · rintro i x H H' hi ⟨s1, acc, ha, hA⟩ hy
    have hlen := DpAll.len hA
    have hle : acc.length ≤ i := by
      rw [hlen, List.length_map]
      have := List.length_filter_le f (List.range i)
      rw [List.length_range] at this
      exact this
    refine mg _ _ _ _ _ ?_ (hs i x H H' hi s1 hy (fun y H4 => ∃ acc, H4 D = some (.lst acc) ∧ acc.length < sizeLine ∧ (f i = true → Same H1 (upd H4 D (.lst (acc ++ [y]))) ∧ ∃ acc', (upd H4 D (.lst (acc ++ [y]))) D = some (.lst acc') ∧ DpAll K (upd H4 D (.lst (acc ++ [y]))) acc' (((List.range (i + 1)).filter f).map d))) ?_)
    · rintro σ2 H2 ⟨h1, h2⟩
      refine ⟨h1, mt _ _ _ _ ?_ h2⟩
      rintro b H3 ⟨hb, s3, h3⟩
      cases b with
      | true =>
        refine iteT ?_
        have h4 := h3 rfl
        have hb' := hb.symm
        simp only [hb', true_implies] at h4
        exact h4
      | false =>
        refine iteF ⟨s1.trans s3, acc, s3 _ _ ha, ?_⟩
        rw [List.range_succ, List.filter_append, List.map_append]
        have e : List.filter f [i] = [] := by rw [List.filter_cons, if_neg (by rw [← hb]; decide)]; rfl
        rw [e, List.map_nil, List.append_nil]
        exact DpAll.same s3 hA
    · intro y H4 s4 hy4
      refine ⟨acc, s4 _ _ ha, sz61 (by omega), fun hf => ⟨Same.mut (s1.trans s4) hD, acc ++ [y], upd_same, ?_⟩⟩
      have kp : Keep K H4 (upd H4 D (.lst (acc ++ [y]))) := But.keep But.upd (s4 _ _ ha)
      have e : List.filter f [i] = [i] := by rw [List.filter_cons, if_pos hf]; rfl
      rw [List.range_succ, List.filter_append, List.map_append, e]
      refine DpAll.keep kp (fun d' h => ?_) (DpAll.append (DpAll.same s4 hA) (.cons hy4 .nil))
      rcases List.mem_append.mp h with h | h
      · obtain ⟨j, hj, rfl⟩ := List.mem_map.mp h
        have := List.mem_range.mp (List.mem_filter.mp hj).1
        exact ht j (by omega)
      · have e : d' = d i := by simpa using h
        rw [e]; exact ht i hi
  · rintro H ⟨s1, acc, ha, hA⟩
    exact hd H acc s1 ha hA
end MB

set_option maxHeartbeats 4000000
namespace MB
open PySem PySem.Spec PyProof.Rows L2
/-! ### x *= e -/
theorem ip_mulW {X : Cx} : PIp X .Mult (fun x y H Q => ∃ i j, x = .int i ∧ y = .int j ∧ CMulW i j ∧ Q (.int (i * j)) H) := by
  intro pins s σ H x y v u Q I r1 r2 h
  obtain ⟨i, j, e1, e2, hc, q⟩ := h
  subst e1; subst e2
  obtain ⟨t, rfl⟩ := r1
  obtain ⟨t', rfl⟩ := r2
  exact imul_int ⟨.int _, H, I.tok _, ⟨_, rfl⟩, q⟩ hc.ok
/-! ### f(q = v, p = w): by keywords in any order -/
def gP {α : Type} (idx : List Nat) (us ws : List α) : List α := match us with
  | [] => idx.filterMap fun i => ws[i]?
  | _ :: _ => []
theorem gP_take {α : Type} {n : Nat} {ws : List α} : ∀ {idx : List Nat}, (∀ i, i ∈ idx → i < n) → (idx.filterMap fun i => (ws.take n)[i]?) = idx.filterMap fun i => ws[i]?
  | [], _ => rfl
  | i :: idx, h => by
    have h1 := h i (List.mem_cons_self ..)
    have h2 := gP_take (α := α) (n := n) (ws := ws) (idx := idx) fun j hj => h j (List.mem_cons_of_mem _ hj)
    rw [List.filterMap_cons, List.filterMap_cons, h2, List.getElem?_take, if_pos h1]
theorem gP_len {α : Type} {ws : List α} : ∀ {idx : List Nat}, (idx.filterMap fun i => ws[i]?).length = idx.length → ∀ i, i ∈ idx → i < ws.length
  | [], _, i, h => nomatch h
  | j :: idx, hl, i, h => by
    cases e : ws[j]? with
    | none =>
      simp only [List.filterMap_cons, e] at hl
      have := List.length_filterMap_le (fun i => ws[i]?) idx
      simp only [List.length_cons] at hl
      omega
    | some x =>
      simp only [List.filterMap_cons, e, List.length_cons, Nat.add_right_cancel_iff] at hl
      rcases List.mem_cons.mp h with h | h
      · subst h
        exact (List.getElem?_eq_some_iff.mp e).1
      · exact gP_len hl i h
theorem gP_rel {zs : List V} {ws : List Value} (r : Vals zs ws) : ∀ idx : List Nat, Vals (idx.filterMap fun i => zs[i]?) (idx.filterMap fun i => ws[i]?)
  | [] => .nil
  | i :: idx => by
    have ih := gP_rel r idx
    cases e : zs[i]? with
    | none =>
      have e2 : ws[i]? = none := List.getElem?_eq_none (by rw [← r.length]; exact List.getElem?_eq_none_iff.mp e)
      simp only [List.filterMap_cons, e, e2]; exact ih
    | some x =>
      obtain ⟨u, e2, ru⟩ := r.get e
      simp only [List.filterMap_cons, e, e2]; exact .cons ru ih
theorem zip_take {α β : Type} : ∀ (ks : List α) (ws : List β), ks.zip (ws.take ks.length) = ks.zip ws
  | [], _ => rfl
  | _ :: _, [] => rfl
  | k :: ks, w :: ws => by simp [zip_take ks ws]
theorem kbP {K : PySem.W.Frag} {x qual : Str} {st : Stmt} {f : Addr} {fd : FuncData} {ps ks : List Str} {idx : List Nat} (F : L2.Fun K x qual st f fd) (hi : idx.length = ps.length) (hk : ks.length = ps.length) (hp : 0 < ps.length)
    (hall : (∀ i, i ∈ idx → i < ps.length) ∧ ps.length - 1 ∈ idx)
    (h : ∀ (kV doc pm : Value) (an : Option Addr) (cdv ct : Value) (ws : List Value), ws.length = ps.length → bindArgs (PySem.W.fnOf x qual (defArgs st) (defBody st) (defScope st) .none kV doc pm an cdv ct) ⟨[], ks.zip ws⟩ = pure (ps.zip (gP idx [] ws))) : KBinds K fd ps ks (gP idx) (gP idx) := by
  obtain ⟨oc, od, kV, doc, pm, an, cdv, ct, osl, rfl, lk, hcd⟩ := F.ex
  refine ⟨fun s us ws _ hl => ?_, fun {vs us zs ws} r1 r2 => ?_⟩
  · cases us with
    | cons u us =>
      have : 0 = ps.length := hl
      omega
    | nil =>
      have hl' : (idx.filterMap fun i => ws[i]?).length = idx.length := by rw [hi]; exact hl
      have h2 := gP_len hl' _ hall.2
      have h3 := h kV doc pm an cdv ct (ws.take ps.length) (by rw [List.length_take]; omega)
      have e1 : gP idx [] (ws.take ps.length) = gP idx [] ws := gP_take hall.1
      have e2 : ks.zip (ws.take ps.length) = ks.zip ws := by
        rw [← hk]
        exact zip_take ks ws
      rw [e1, e2] at h3
      exact .of_eq h3
  · cases r1 with
    | nil => exact gP_rel r2 idx
    | cons _ _ => exact .nil
section
variable {X : Cx} {CX : CXT} {k : Nat} {f : Addr} {fd : FuncData} {ps ks : List Str} {sp : Sp} {E : XK} {x : Str} {p pos : Pos} {kws : List Keyword} {tk : TA} {g : List Value → List Value → List Value} {gV : List V → List V → List V}
end
end MB

set_option maxHeartbeats 4000000
namespace MB
open PySem PySem.Spec PyProof.Rows L2
/-! ### f(u, q = v, ..): one argument by place, the others by name in their order -/
def gQ {α : Type} (m : Nat) (us ws : List α) : List α := match us with
  | [u] => u :: ws.take m
  | _ => []
theorem kbQ {K : PySem.W.Frag} {x qual : Str} {st : Stmt} {f : Addr} {fd : FuncData} {p0 : Str} {ks : List Str} (F : L2.Fun K x qual st f fd)
    (h : ∀ (kV doc pm : Value) (an : Option Addr) (cdv ct u : Value) (ws : List Value), ws.length = ks.length → bindArgs (PySem.W.fnOf x qual (defArgs st) (defBody st) (defScope st) .none kV doc pm an cdv ct) ⟨[u], ks.zip ws⟩ = pure ((p0 :: ks).zip (u :: ws))) : KBinds K fd (p0 :: ks) ks (gQ ks.length) (gQ ks.length) := by
  obtain ⟨oc, od, kV, doc, pm, an, cdv, ct, osl, rfl, lk, hcd⟩ := F.ex
  refine ⟨fun s us ws _ hl => ?_, fun {vs us zs ws} r1 r2 => ?_⟩
  · match us, hl with
    | [u], hl =>
      have hl' : (ws.take ks.length).length = ks.length := by
        have : (u :: ws.take ks.length).length = ks.length + 1 := hl
        simpa using this
      have h3 := h kV doc pm an cdv ct u (ws.take ks.length) hl'
      rw [zip_take ks ws] at h3
      exact .of_eq h3
  · cases r1 with
    | nil => exact .nil
    | cons r1 r =>
      cases r with
      | nil => exact .cons r1 (r2.take _)
      | cons _ _ => exact .nil
/-- a dividend below 2 ^ 4000 is divided by C -/
theorem divp_nat {i j : Nat} (hj : 0 < j) (h : i < 2 ^ 4000) : CDivP (i : Int) (j : Int) := by
  refine divp_ok (by omega) ?_
  have : Builtin.Int.intBits (i : Int) ≤ 4000 := by
    unfold Builtin.Int.intBits
    split
    · omega
    · rename_i z
      have hi : i ≠ 0 := fun e => z (by simp [e])
      rw [Int.natAbs_natCast]
      have := (Nat.log2_lt hi).mpr h
      omega
  omega
end MB

set_option maxHeartbeats 4000000
namespace MB
open PySem PySem.Spec PyProof.Rows L2
/-- tuple(range(i, j, k)) -/
def tTupR3 (ta : TA) : TE := fun σ H Q => ta σ H fun vs H1 => ∃ (i j k : Int) (n : Nat), vs = [.int i, .int j, .int k] ∧ RgC i j k n ∧ n ≤ 2 ^ 24 ∧ ∀ q, H1 q = none → Q (.ref q) (upd H1 q (.tup ((List.range n).map fun (m : Nat) => V.int (i + (m : Int) * k))))
theorem pe_tupR3 {X : Cx} {a b c : Expr} {ta : TA} {p p' pos pos' : Pos} (hc : X.calm = true) (hg : Gl X "tuple") (hm : X.mg "tuple" = none) (hg' : Gl X "range") (hm' : X.mg "range" = none) (ha : PA X [a, b, c] ta)
    (hs : starEach [a, b, c] X.env = (false, eval a X.env) :: starEach [b, c] X.env := by rfl) (hpl : (backTo pos' (starEach [b, c] X.env)).any (·.1) = false := by rfl)
    (na : starEach [.Call (.Name "range" p') [a, b, c] [] pos'] X.env = (false, eval (.Call (.Name "range" p') [a, b, c] [] pos') X.env) :: starEach [] X.env := by rfl) :
    PE X (.Call (.Name "tuple" p) [.Call (.Name "range" p') [a, b, c] [] pos'] [] pos) (tTupR3 ta) := by
  refine ⟨fun pins s σ H Q I h => ?_⟩
  refine Call_ (ld_blt I hg hm boot_tuple (PyProof.Rows.callWith_type1 (args_cons (Call_ (ld_blt I hg' hm' boot_range (PyProof.Rows.callWith_type1 (thn (ha.run pos' pins s σ H _ I h) fun us s1 ⟨vs, H1, I1, r1, q1⟩ => ?_) hs hpl))) na) na))
  obtain ⟨i, j, k, n, rfl, ⟨c0, c1, c2, c3⟩, hn, q⟩ := q1
  obtain ⟨u1, u2, u3, rfl, ⟨t1, rfl⟩, ⟨t2, rfl⟩, ⟨t3, rfl⟩⟩ : ∃ u1 u2 u3, us = [u1, u2, u3] ∧ RelV (.int i) u1 ∧ RelV (.int j) u2 ∧ RelV (.int k) u3 := by
    cases r1 with
    | cons x1 y1 => cases y1 with
      | cons x2 y2 => cases y2 with
        | cons x3 y3 => cases y3; exact ⟨_, _, _, rfl, x1, x2, x3⟩
  refine call_range_3 c0 (args_nil ?_) (.inl (PyProof.noPylong_small c1))
  have I2 : Inv X pins σ H1 { s1 with heap := s1.heap.push { cls := .type "range", data := .fields #[.int i t1, .int j t2, .int k t3] } } := I1.kept (t' := s1.toks) fun b o e => Heap.get?_push_of_some _ e
  refine call_tuple_range (n := n) (I2.ok.hd hc) (IsRange.new ..) c2 c3 hn fun h' tk acc hk hi => ?_
  have I3 : Inv X pins σ H1 { s1 with heap := h', toks := tk } := I2.kept hk
  have hv : Vals ((List.range n).map fun (m : Nat) => V.int (i + (m : Int) * k)) acc.toList := by
    have e : acc.toList.length = n := by rw [Array.length_toList]; exact hi.1
    rw [← e]
    refine vals_of_get acc.toList _ fun m u hj => ?_
    obtain ⟨t, rfl⟩ := hi.2 m u (by rw [← hj, Array.getElem?_toList])
    exact ⟨t, rfl⟩
  refine ⟨.ref h'.objs.size, _, I3.laid (o := .tup ((List.range n).map fun (m : Nat) => V.int (i + (m : Int) * k))) (t' := tk) (fun c o e => Heap.get?_push_of_some _ e) (Nat.le_refl _) ⟨?_, acc.toList, hv, ?_⟩, rfl, q _ (I3.hok.fresh (Nat.le_refl _))⟩
  · rw [List.length_map, List.length_range, sizeLine_eq]; omega
  · rw [Array.toArray_toList]; exact IsTup.new _ _
end MB

set_option maxHeartbeats 4000000
namespace MB
open PySem PySem.Spec PyProof.Rows L2
theorem blT {c : Prop} [Decidable c] (h : c) : V.bl (decide c) = V.bl true := by rw [decide_eq_true h]
theorem blF {c : Prop} [Decidable c] (h : ¬ c) : V.bl (decide c) = V.bl false := by rw [decide_eq_false h]
theorem nblF {c : Prop} [Decidable c] (h : c) : V.bl (!decide c) = V.bl false := by rw [decide_eq_true h]; rfl
theorem nblT {c : Prop} [Decidable c] (h : ¬ c) : V.bl (!decide c) = V.bl true := by rw [decide_eq_false h]; rfl
theorem int_ne {i j : Int} (h : i ≠ j) : ¬ V.int i = V.int j := fun e => h (by injection e)
theorem dp_bls_inv {K : PySem.W.Frag} {H : Hp} : ∀ {ns : List Bool} {vs : List V}, DpAll K H vs (ns.map PyData.bool) → vs = ns.map V.bl
  | [], _, .nil => rfl
  | n :: ns, _, .cons a b => by
    cases a
    rw [dp_bls_inv b]
    rfl
/-- a comprehension whose items are truth values -/
theorem lc_bools {K : PySem.W.Frag} {J : It} {n : Nat} {G : Hp → Prop} {Y : Nat → Hp → V → Hp → Prop} (w : Walk J n G Y) {g : TG} {tt : TT} {te : TE} {vs : List Nat} {σ : L2.St} {H1 : Hp} {D : Addr} {Qd : Hp → Prop}
    (bs : List Bool) (hl : bs.length = n) (hn : n ≤ 1000) (hD : H1 D = none) (hG : ∀ H, Same H1 H → G H)
    (hs : ∀ i x H H', i < n → Same H1 H → Y i H x H' → ∀ b, bs[i]? = some b → ∀ R : V → Hp → Prop, (∀ H4, Same H H4 → R (.bl b) H4) →
      g x (wipe σ vs) H' fun σ2 H2 => wipe σ2 vs = wipe σ vs ∧ tt σ2 H2 fun b H3 => b = true ∧ te σ2 H3 R)
    (hd : ∀ H, Same H1 H → H D = some (.lst (bs.map V.bl)) → Qd H)
    (mg : ∀ x σ' H' (Q Q' : L2.St → Hp → Prop), (∀ a b, Q a b → Q' a b) → g x σ' H' Q → g x σ' H' Q') (mt : ∀ σ' H' (Q Q' : Bool → Hp → Prop), (∀ a b, Q a b → Q' a b) → tt σ' H' Q → tt σ' H' Q') :
    ∃ W : Nat → Nat → Hp → Prop, (∃ m, W 0 m (upd H1 D (.lst []))) ∧ ∀ i m H, W i m H →
      (J.stop i H ∧ Qd H) ∨ (J.go i H ∧ ∃ Nx : Hp → Prop, (∀ H', Nx H' → ∃ m', m' < m ∧ W (i + 1) m' H') ∧ ∀ x H', J.yld i H x H' → g x (wipe σ vs) H' fun σ2 H2 => wipe σ2 vs = wipe σ vs ∧ tt σ2 H2 fun b H3 =>
        if b = true then te σ2 H3 fun y H4 => ∃ acc, H4 D = some (.lst acc) ∧ acc.length < sizeLine ∧ Nx (upd H4 D (.lst (acc ++ [y]))) else Nx H3) := by
  refine lc_all (K := K) w (bs.map PyData.bool) (by rw [List.length_map, hl]) (fun d h => ?_) hn hD hG ?_ ?_ mg mt
  · obtain ⟨b, _, rfl⟩ := List.mem_map.mp h
    exact .bl b
  · intro i x H H' hi s y d hd' R hR
    rw [List.getElem?_map] at hd'
    cases e : bs[i]? with
    | none => rw [e] at hd'; cases hd'
    | some b =>
      rw [e] at hd'
      cases hd'
      exact hs i x H H' hi s y b e R fun H4 s4 => hR _ _ s4 (.bl b)
  · intro H acc s ha hA
    rw [dp_bls_inv hA] at ha
    exact hd H s ha
/-- a comprehension whose items are numbers -/
theorem lc_ints {K : PySem.W.Frag} {J : It} {n : Nat} {G : Hp → Prop} {Y : Nat → Hp → V → Hp → Prop} (w : Walk J n G Y) {g : TG} {tt : TT} {te : TE} {vs : List Nat} {σ : L2.St} {H1 : Hp} {D : Addr} {Qd : Hp → Prop}
    (bs : List Int) (hl : bs.length = n) (hn : n ≤ 1000) (hD : H1 D = none) (hG : ∀ H, Same H1 H → G H)
    (hs : ∀ i x H H', i < n → Same H1 H → Y i H x H' → ∀ b, bs[i]? = some b → ∀ R : V → Hp → Prop, (∀ H4, Same H H4 → R (.int b) H4) →
      g x (wipe σ vs) H' fun σ2 H2 => wipe σ2 vs = wipe σ vs ∧ tt σ2 H2 fun b H3 => b = true ∧ te σ2 H3 R)
    (hd : ∀ H, Same H1 H → H D = some (.lst (bs.map V.int)) → Qd H)
    (mg : ∀ x σ' H' (Q Q' : L2.St → Hp → Prop), (∀ a b, Q a b → Q' a b) → g x σ' H' Q → g x σ' H' Q') (mt : ∀ σ' H' (Q Q' : Bool → Hp → Prop), (∀ a b, Q a b → Q' a b) → tt σ' H' Q → tt σ' H' Q') :
    ∃ W : Nat → Nat → Hp → Prop, (∃ m, W 0 m (upd H1 D (.lst []))) ∧ ∀ i m H, W i m H →
      (J.stop i H ∧ Qd H) ∨ (J.go i H ∧ ∃ Nx : Hp → Prop, (∀ H', Nx H' → ∃ m', m' < m ∧ W (i + 1) m' H') ∧ ∀ x H', J.yld i H x H' → g x (wipe σ vs) H' fun σ2 H2 => wipe σ2 vs = wipe σ vs ∧ tt σ2 H2 fun b H3 =>
        if b = true then te σ2 H3 fun y H4 => ∃ acc, H4 D = some (.lst acc) ∧ acc.length < sizeLine ∧ Nx (upd H4 D (.lst (acc ++ [y]))) else Nx H3) := by
  refine lc_all (K := K) w (bs.map PyData.int) (by rw [List.length_map, hl]) (tf_ints _) hn hD hG ?_ ?_ mg mt
  · intro i x H H' hi s y d hd' R hR
    rw [List.getElem?_map] at hd'
    cases e : bs[i]? with
    | none => rw [e] at hd'; cases hd'
    | some b =>
      rw [e] at hd'
      cases hd'
      exact hs i x H H' hi s y b e R fun H4 s4 => hR _ _ s4 (.int b)
  · intro H acc s ha hA
    rw [dp_ints_inv hA] at ha
    exact hd H s ha
theorem k_pgTN {X : Cx} {K : PySem.W.Frag} {x y z : Str} {px py pz p1 : Pos} {k k1 : Nat} {pos : Pos} {t1 t2 : TG} (hK : X.K = K) (hc : X.calm = true) (h1 : PG X (.Tuple [.Name x px, .Name y py] k1 p1) t1) (h2 : PG X (.Name z pz) t2) : PG X (.Tuple [.Tuple [.Name x px, .Name y py] k1 p1, .Name z pz] k pos) (gTup K 2 (gCons t1 (gCons t2 gNil))) := by
  subst hK
  exact pg_tup hc (pgs_cons h1 (pgs_cons h2 pgs_nil))
theorem mono_pair2 {K : PySem.W.Frag} {n n' i j l : Nat} (x : V) (σ' : L2.St) (H' : Hp) (Q Q' : L2.St → Hp → Prop) (h : ∀ a b, Q a b → Q' a b) (e : gTup K n (gCons (gTup K n' (gCons (gName i) (gCons (gName j) gNil))) (gCons (gName l) gNil)) x σ' H' Q) : gTup K n (gCons (gTup K n' (gCons (gName i) (gCons (gName j) gNil))) (gCons (gName l) gNil)) x σ' H' Q' := by
  obtain ⟨a, xs, e1, e2, e3, v, r, e4, b, ys, f1, f2, f3, v1, r1, f4, v2, r2, f5, f6, v', r', e5, e6, q⟩ := e
  exact ⟨a, xs, e1, e2, e3, v, r, e4, b, ys, f1, f2, f3, v1, r1, f4, v2, r2, f5, f6, v', r', e5, e6, h _ _ q⟩
theorem ci_sum : ∀ p : List Nat, (ci p).sum = ((p.sum : Nat) : Int)
  | [] => rfl
  | x :: p => by
    have := ci_sum p
    simp only [ci, List.map_cons, List.sum_cons, Int.natCast_add] at this ⊢
    rw [this]
theorem cutV_to {p : List Nat} {m : Nat} (h : m ≤ p.length) : cutV (vi p) none (some (m : Int)) = vi (p.take m) := by
  rw [cut_to (by rw [vi_len]; exact h)]; simp [vi, List.map_take]
theorem cutV_from {p : List Nat} {m : Nat} (h : m ≤ p.length) : cutV (vi p) (some (m : Int)) none = vi (p.drop m) := by
  rw [cut_from (by rw [vi_len]; exact h)]; simp [vi, List.map_drop]
theorem cut_drop {p : List Nat} {m : Nat} (h : m ≤ p.length) : cutV (vi p) (some (m : Int)) none = (ci (p.drop m)).map V.int := by
  rw [cutV_from h, vi_ci]
theorem isi_int {K : PySem.W.Frag} {H : Hp} {i : Int} {Q : VK} (q : Q (.bl true) H) : rIsi K [.int i, .ty "int"] H Q :=
  ⟨.int i, .ty "int", .type "int", .type "int", true, rfl, .ty _, .base (.int i), kit_ty (by decide +kernel), q⟩
theorem isi_bool {K : PySem.W.Frag} {H : Hp} {i : Int} {Q : VK} (q : Q (.bl false) H) : rIsi K [.int i, .ty "bool"] H Q :=
  ⟨.int i, .ty "bool", .type "int", .type "bool", false, rfl, .ty _, .base (.int i), kit_ty (by decide +kernel), q⟩
theorem nth3 {n : Nat} (x : List V) (h : x.length = n) (i : Nat) (hi : i < (if (if (x.length : Int) < 3 then (x.length : Int) else 3) > 1 then (if (x.length : Int) < 3 then (x.length : Int) else 3) else 1 : Int).toNat) : i ≤ 62 := by
  have : (if (if (x.length : Int) < 3 then (x.length : Int) else 3) > 1 then (if (x.length : Int) < 3 then (x.length : Int) else 3) else 1) ≤ 3 := by split <;> split <;> omega
  omega
end MB

set_option maxHeartbeats 4000000
namespace MB
open PySem PySem.Spec PyProof.Rows L2
theorem alike_ints (ns : List Int) : PySem.W.AlikeAll (ns.map PyData.int) := by
  refine ⟨fun x hx y hy => ?_, fun x hx e => ?_⟩
  · obtain ⟨i, _, rfl⟩ := List.mem_map.mp hx
    obtain ⟨j, _, rfl⟩ := List.mem_map.mp hy
    simp [PySem.W.alike]
  · obtain ⟨i, _, rfl⟩ := List.mem_map.mp hx
    cases e
theorem depth_ints : ∀ ns : List Int, PyData.depthAll (ns.map PyData.int) = 0
  | [] => by simp [PyData.depthAll]
  | n :: ns => by simp [PyData.depthAll, PyData.depth, depth_ints ns]
/-! ### max of a tuple of ints; with default= -/
def rMaxT (K : PySem.W.Frag) : List V → Hp → VK → Prop := fun xs H Q => ∃ (a : Addr) (n : Int) (ns : List Int), xs = [V.ref a] ∧ SqT K H a ((n :: ns).map V.int) ∧ Q (.int (ns.foldl max n)) H
theorem cr_maxT {X : Cx} {K : PySem.W.Frag} (hK : X.K = K) (hc : X.calm = true) (hu : X.A.units + 64 < cLine) : CallR X (.builtin "max") (rMaxT K) := by
  subst hK
  intro pins s σ H vs us Q I r h
  obtain ⟨a, n, ns, rfl, hs, q⟩ := h
  obtain ⟨its, rv, hl, _⟩ := I.tuple hs
  rw [Vals.ref1 r]
  obtain ⟨as, rd⟩ := Dp.readsAll I ((n :: ns).map PyData.int) _ its (dp_ints (n :: ns)) rv
  refine PySem.W.max_tuple_data (x := .int n) (xs := ns.map PyData.int) (I.ok.hd hc) hl (by simpa using rd) (alike_ints (n :: ns)) ?_ fun i v h' tk bs _ hr hk => ?_
  · have := depth_ints (n :: ns)
    rw [List.map_cons] at this
    rw [this]; omega
  · rw [PySem.W.maxD_ints] at hr
    cases hr
    exact ⟨.int _, H, I.kept hk, ⟨_, rfl⟩, q⟩
def rMaxDef (K : PySem.W.Frag) : List V → List V → Hp → VK → Prop := fun xs zs H Q => ∃ (a : Addr) (z : Int) (ns : List Int), xs = [V.ref a] ∧ zs = [V.int z] ∧ SqT K H a (ns.map V.int) ∧ (ns = [] → Q (.int z) H) ∧ ∀ m r, ns = m :: r → Q (.int (r.foldl max m)) H
theorem cr_maxDef {X : Cx} {K : PySem.W.Frag} (hK : X.K = K) (hc : X.calm = true) (hu : X.A.units + 64 < cLine) : CallRK X (.builtin "max") [Str.ofString "default"] (rMaxDef K) := by
  subst hK
  intro pins s σ H vs zs us ws Q I r rz h
  obtain ⟨a, z, ns, rfl, rfl, hs, q0, q1⟩ := h
  obtain ⟨its, rv, hl, _⟩ := I.tuple hs
  rw [Vals.ref1 r]
  obtain ⟨u, rfl, tz, rfl⟩ := vals1 rz
  obtain ⟨as, rd⟩ := Dp.readsAll I (ns.map PyData.int) _ its (dp_ints ns) rv
  refine PySem.W.max_tuple_default (xs := ns.map PyData.int) (I.ok.hd hc) hl (by simpa using rd) (alike_ints ns) ?_ (fun e h' tk hk => ?_) fun y ys i v h' tk bs e _ hr hk => ?_
  · rw [depth_ints ns]; omega
  · exact ⟨.int z, H, I.kept hk, ⟨_, rfl⟩, q0 (List.map_eq_nil_iff.mp e)⟩
  · cases ns with
    | nil => cases e
    | cons m t =>
      rw [List.map_cons] at e
      cases e
      rw [PySem.W.maxD_ints] at hr
      cases hr
      exact ⟨.int _, H, I.kept hk, ⟨_, rfl⟩, q1 m t rfl⟩
/-! ### sorted of a tuple of ints -/
section
variable {prog : Program} {w : World} {A : Around} {E : Value → Shared → Prop} {s : Shared}
theorem gather_tuple {p : Addr} {xs : List Value} {R : List Value → Shared → Prop} (ht : s.heap.IsTuple p xs.toArray) (hz : xs.length ≤ sizeLine)
    (q : R xs { s with heap := (s.heap.push (seqObj "list" #[] 0)).update s.heap.objs.size (Obj.mapSeq (· ++ xs.toArray)) }) : wpAny (model prog w) A (collect (.ref p)) R E s := by
  obtain ⟨ob, hob, hcl, ep, hdt⟩ := id ht
  unfold collect
  refine wpAny_bind (wpAny_runValue (codeAny_builtin entry_proto_collect' (show wpAny _ _ (do again (.builtin "list.__iadd__" ⟨[← newList [], .ref p], []⟩)) _ _ s from ?_)))
  refine wpAny_bind (wpAny_newList (wpAny_pure ⟨Code.quiet_builtin _ (by decide +kernel), codeAny_builtin entry_list_iadd' (show wpAny _ _ (Builtin.List.listExtendWith (.ref s.heap.objs.size) (.ref p) (.ref s.heap.objs.size)) _ _ { s with heap := s.heap.push (seqObj "list" #[] 0) } from ?_)⟩))
  unfold Builtin.List.listExtendWith
  have hob' : (s.heap.push (seqObj "list" #[] 0)).get? p = some ob := Heap.get?_push_of_some _ hob
  refine wpAny_bind (wpAny_typeOf (T := "tuple") ⟨ob, hob', hcl⟩ ?_)
  have tt : (Value.type "tuple" == Value.type "tuple") = true := by rfl
  rw [if_pos (by rw [tt]; simp)]
  refine wpAny_bind (listItems_at hob' hdt (wpAny_bind (listItems_at (xs := #[]) (n := 0) (Heap.get?_push_size _ rfl) rfl ?_)))
  rw [if_neg (by simp)]
  refine wpAny_bind (listUpdate_at (xs := #[]) (n := 0) (Heap.get?_push_size _ rfl) rfl (wpAny_pure ?_) (Nat.zero_le _) (by show (#[] ++ xs.toArray).size ≤ sizeLine + 1; simp only [Array.size_append, List.size_toArray, List.length_nil]; omega))
  show wpAny (model prog w) A (load s.heap.objs.size >>= _) R E { s with heap := (s.heap.push (seqObj "list" #[] 0)).update s.heap.objs.size (Obj.mapSeq (· ++ xs.toArray)) }
  refine wpAny_bind (wpAny_load (get?_update_seq (Heap.get?_push_size _ rfl) _) (show wpAny _ _ (pure ((#[] : Array Value) ++ xs.toArray).toList) R E _ from ?_))
  have ex : ((#[] : Array Value) ++ xs.toArray).toList = xs := by simp
  rw [ex]
  exact wpAny_pure q
theorem sorted_tup {p : Addr} {xs : List Value} {ns : List Int} {Q : Value → Shared → Prop} (ht : s.heap.IsTuple p xs.toArray) (hz : xs.length ≤ sizeLine) (hi : IntsAre xs ns)
    (q : ∀ out : List Value, SrtO.Srtd SrtO.ltIv out → SrtO.Stb SrtO.ltIv out xs → Q (.ref (s.heap.objs.size + 1)) { s with heap := sortedAll s.heap xs out.toArray }) :
    wpAny (model prog w) A (call (.builtin "sorted") [.ref p]) Q E s := by
  refine Calls.call_function_entry kind_sorted plain_sorted entry_sorted (args_sorted1 _) ?_
  unfold Builtin.«sorted»
  refine wpAny_bind (m := checkCount "sorted" 1 1 _) (wpAny_pure (wpAny_bind (gather_tuple ht hz (wpAny_bind (wpAny_newList ?_ hz)))))
  have sz1 : ((s.heap.push (seqObj "list" #[] 0)).update s.heap.objs.size (Obj.mapSeq (· ++ xs.toArray))).objs.size = s.heap.objs.size + 1 := (Heap.size_update ..).trans (Heap.size_push ..)
  have hoL := Heap.get?_push_size ((s.heap.push (seqObj "list" #[] 0)).update s.heap.objs.size (Obj.mapSeq (· ++ xs.toArray))) (o := seqObj "list" xs.toArray 0) rfl
  rw [sz1] at hoL
  show wpAny _ _ _ _ _ { s with heap := ((s.heap.push (seqObj "list" #[] 0)).update s.heap.objs.size (Obj.mapSeq (· ++ xs.toArray))).push (seqObj "list" xs.toArray 0) }
  rw [sz1]
  exact wpAny_bind (wpAny_holding (wpAny_call_entry PyProof.Rows.slot_list_sort ⟨_, hoL, rfl⟩ PyProof.Rows.entry_list_sort (SrtO.list_sort_ord SrtO.swo_int hoL hz (fun h2 => SrtO.ints_sortable hi h2) fun out hs hb => ⟨_, rfl, wpAny_pure ⟨_, rfl, q out hs hb⟩⟩) (PyProof.Rows.args_list_sort _)))
end
def rSortT (K : PySem.W.Frag) : List V → Hp → VK → Prop := fun xs H Q => ∃ (a : Addr) (ns : List Int), xs = [V.ref a] ∧ SqT K H a (ns.map V.int) ∧ ∀ (ms : List Int) (p : Addr), ms.Perm ns → H p = none → Q (.ref p) (upd H p (.lst (ms.map V.int)))
theorem cr_sortTI {X : Cx} : CallR X (.builtin "sorted") (rSortT X.K) := by
  intro pins s σ H vs us Q I r h
  obtain ⟨a, ns, rfl, hs, q⟩ := h
  obtain ⟨its, rv, hl, hz⟩ := I.tuple hs
  rw [Vals.ref1 r]
  have hi := rv.ints
  refine sorted_tup hl (by rw [← rv.length]; exact hz) hi fun out h1 h2 => ?_
  obtain ⟨k1, k2, k3⟩ := SrtO.ints_out hi h1 h2
  obtain ⟨ep, he'⟩ := sortedAll_at s.heap its out.toArray
  have hlen : ((out.map SrtO.iv).map V.int).length ≤ sizeLine := by
    have := k2.length_eq
    simp only [List.length_map] at this hz ⊢
    omega
  exact ⟨.ref _, upd H (s.heap.objs.size + 1) (.lst ((out.map SrtO.iv).map V.int)), I.laid (t' := s.toks) (fun _ _ e => sortedAll_old e) (Nat.le_succ _) ⟨hlen, out, ep, vals_of_ints k1, he'⟩, rfl, q _ _ k2 (I.hok.fresh (Nat.le_succ _))⟩
end MB

set_option maxHeartbeats 4000000
namespace MB
/-- the first of the least among f 0 .. f n -/
def amin (f : Nat → Int) : Nat → Nat
  | 0 => 0
  | n + 1 => if f (n + 1) < f (amin f n) then n + 1 else amin f n
theorem amin_le (f : Nat → Int) : ∀ n, amin f n ≤ n
  | 0 => Nat.le_refl _
  | n + 1 => by
    have := amin_le f n
    unfold amin
    split <;> omega
theorem amin_min (f : Nat → Int) : ∀ n k, k ≤ n → f (amin f n) ≤ f k
  | 0, k, h => by
    have : k = 0 := by omega
    rw [this]
    exact Int.le_refl _
  | n + 1, k, h => by
    have ih := amin_min f n
    unfold amin
    split
    · rename_i hlt
      by_cases e : k = n + 1
      · rw [e]
        exact Int.le_refl _
      · have := ih k (by omega)
        omega
    · rename_i hlt
      by_cases e : k = n + 1
      · rw [e]
        omega
      · exact ih k (by omega)
theorem amin_first (f : Nat → Int) : ∀ n k, k < amin f n → f (amin f n) < f k
  | 0, k, h => by simp [amin] at h
  | n + 1, k, h => by
    have ih := amin_first f n
    have hm := amin_min f n
    unfold amin at h ⊢
    split at h
    · rename_i hlt
      rw [if_pos hlt]
      have := hm k (by omega)
      omega
    · rename_i hlt
      rw [if_neg hlt]
      exact ih k h
theorem amin_uniq {f : Nat → Int} {n a : Nat} (ha : a ≤ n) (h1 : ∀ k, k ≤ n → f a ≤ f k) (h2 : ∀ k, k < a → f a < f k) : amin f n = a := by
  rcases Nat.lt_trichotomy (amin f n) a with h | h | h
  · have := h2 _ h
    have := amin_min f n a ha
    omega
  · exact h
  · have := amin_first f n a h
    have := h1 _ (amin_le f n)
    omega
theorem amin_like {f g : Nat → Int} {n : Nat} (h : ∀ j k, j ≤ n → k ≤ n → (f j < f k ↔ g j < g k)) : amin f n = amin g n := by
  refine amin_uniq (amin_le g n) (fun k hk => ?_) (fun k hk => ?_)
  · have h1 := amin_min g n k hk
    have h2 := h k (amin g n) hk (amin_le g n)
    by_cases e : f k < f (amin g n)
    · have := h2.mp e; omega
    · omega
  · have h0 := amin_le g n
    exact (h _ _ (amin_le g n) (by omega)).mpr (amin_first g n k hk)
theorem amin_congr {f g : Nat → Int} {n : Nat} (h : ∀ k, k ≤ n → f k = g k) : amin f n = amin g n :=
  amin_like fun j k hj hk => by rw [h j hj, h k hk]
/-- the cost of the root i + k of the m flushes from i on -/
def cst (S R : Nat → Int) (i m k : Nat) : Int := S (i + k + 1) - S i + R (i + m) - R (i + k)
def lwF (S R : Nat → Int) : Nat → Nat → Nat → Int
  | 0, _, _ => 0
  | _ + 1, _, 0 => 0
  | f + 1, i, m + 1 => (fun k => lwF S R f i k + lwF S R f (i + k + 1) (m - k) + cst S R i (m + 1) k) (amin (fun k => lwF S R f i k + lwF S R f (i + k + 1) (m - k) + cst S R i (m + 1) k) m)
theorem lwF_eq (S R : Nat → Int) : ∀ f m i, m ≤ f → lwF S R f i m = lwF S R m i m := by
  have key : ∀ f, ∀ m i, m ≤ f → lwF S R (f + 1) i m = lwF S R f i m := by
    intro f
    induction f with
    | zero => intro m i h; have : m = 0 := by omega
              subst this; rfl
    | succ f ih =>
      intro m i h
      cases m with
      | zero => rfl
      | succ m =>
        have e : ∀ k, k ≤ m → lwF S R (f + 1) i k + lwF S R (f + 1) (i + k + 1) (m - k) + cst S R i (m + 1) k = lwF S R f i k + lwF S R f (i + k + 1) (m - k) + cst S R i (m + 1) k := fun k hk => by
          rw [ih k i (by omega), ih (m - k) (i + k + 1) (by omega)]
        show (fun k => lwF S R (f + 1) i k + lwF S R (f + 1) (i + k + 1) (m - k) + cst S R i (m + 1) k) (amin (fun k => lwF S R (f + 1) i k + lwF S R (f + 1) (i + k + 1) (m - k) + cst S R i (m + 1) k) m) = (fun k => lwF S R f i k + lwF S R f (i + k + 1) (m - k) + cst S R i (m + 1) k) (amin (fun k => lwF S R f i k + lwF S R f (i + k + 1) (m - k) + cst S R i (m + 1) k) m)
        rw [amin_congr e]
        exact e _ (amin_le _ _)
  intro f m i h
  induction f with
  | zero => have : m = 0 := by omega
            subst this; rfl
  | succ f ih =>
    by_cases e : m ≤ f
    · rw [key f m i e, ih e]
    · have : m = f + 1 := by omega
      rw [this]
/-- the least work of the m flushes from i on -/
def lw (S R : Nat → Int) (i m : Nat) : Int := lwF S R m i m
/-- the least work of the m + 1 flushes from i on with the root i + k -/
def via (S R : Nat → Int) (i m k : Nat) : Int := lw S R i k + lw S R (i + k + 1) (m - k) + cst S R i (m + 1) k
def rt (S R : Nat → Int) (i m : Nat) : Nat := amin (via S R i m) m
theorem lw_zero (S R : Nat → Int) (i : Nat) : lw S R i 0 = 0 := rfl
theorem lw_succ (S R : Nat → Int) (i m : Nat) : lw S R i (m + 1) = via S R i m (rt S R i m) := by
  have e : ∀ k, k ≤ m → lwF S R m i k + lwF S R m (i + k + 1) (m - k) + cst S R i (m + 1) k = via S R i m k := fun k hk => by
    rw [lwF_eq S R m k i hk, lwF_eq S R m (m - k) (i + k + 1) (by omega)]; rfl
  show (fun k => lwF S R m i k + lwF S R m (i + k + 1) (m - k) + cst S R i (m + 1) k) (amin (fun k => lwF S R m i k + lwF S R m (i + k + 1) (m - k) + cst S R i (m + 1) k) m) = _
  rw [amin_congr e]
  exact e _ (amin_le _ _)
theorem rt_le (S R : Nat → Int) (i m : Nat) : rt S R i m ≤ m := amin_le _ _
theorem lw_le (S R : Nat → Int) (i : Nat) {m k : Nat} (h : k ≤ m) : lw S R i (m + 1) ≤ via S R i m k := by
  rw [lw_succ]
  exact amin_min _ _ _ h
def ltF (S R : Nat → Int) : Nat → Nat → Nat → T
  | 0, _, _ => .nil
  | _ + 1, _, 0 => .nil
  | f + 1, i, m + 1 => .node (ltF S R f i (rt S R i m)) (ltF S R f (i + rt S R i m + 1) (m - rt S R i m))
theorem ltF_eq (S R : Nat → Int) : ∀ f m i, m ≤ f → ltF S R f i m = ltF S R m i m := by
  have key : ∀ f, ∀ m i, m ≤ f → ltF S R (f + 1) i m = ltF S R f i m := by
    intro f
    induction f with
    | zero => intro m i h; have : m = 0 := by omega
              subst this; rfl
    | succ f ih =>
      intro m i h
      cases m with
      | zero => rfl
      | succ m =>
        have hr := rt_le S R i m
        show T.node (ltF S R (f + 1) i (rt S R i m)) (ltF S R (f + 1) (i + rt S R i m + 1) (m - rt S R i m)) = T.node (ltF S R f i (rt S R i m)) (ltF S R f (i + rt S R i m + 1) (m - rt S R i m))
        rw [ih _ _ (by omega), ih _ _ (by omega)]
  intro f m i h
  induction f with
  | zero => have : m = 0 := by omega
            subst this; rfl
  | succ f ih =>
    by_cases e : m ≤ f
    · rw [key f m i e, ih e]
    · have : m = f + 1 := by omega
      rw [this]
/-- the tree of least roots of the m flushes from i on -/
def lt (S R : Nat → Int) (i m : Nat) : T := ltF S R m i m
theorem lt_zero (S R : Nat → Int) (i : Nat) : lt S R i 0 = .nil := rfl
theorem lt_succ (S R : Nat → Int) (i m : Nat) : lt S R i (m + 1) = .node (lt S R i (rt S R i m)) (lt S R (i + rt S R i m + 1) (m - rt S R i m)) := by
  have hr := rt_le S R i m
  show T.node (ltF S R m i (rt S R i m)) (ltF S R m (i + rt S R i m + 1) (m - rt S R i m)) = _
  rw [ltF_eq S R m _ i hr, ltF_eq S R m _ (i + rt S R i m + 1) (by omega)]; rfl
theorem lt_size (S R : Nat → Int) : ∀ m i, (lt S R i m).size = m := by
  intro m
  induction m using Nat.strongRecOn with
  | ind m ih =>
    intro i
    cases m with
    | zero => rfl
    | succ m =>
      have hr := rt_le S R i m
      rw [lt_succ]
      show (lt S R i (rt S R i m)).size + 1 + (lt S R (i + rt S R i m + 1) (m - rt S R i m)).size = m + 1
      rw [ih _ (by omega), ih _ (by omega)]
      omega
/-- only the differences count -/
theorem lw_shift {S R S' R' : Nat → Int} {d : Nat} {c c' : Int} : ∀ m i, (∀ j, i ≤ j → j ≤ i + m → S j = S' (j + d) + c ∧ R j = R' (j + d) + c') → lw S R i m = lw S' R' (i + d) m ∧ lt S R i m = lt S' R' (i + d) m := by
  intro m
  induction m using Nat.strongRecOn with
  | ind m ih =>
    intro i h
    cases m with
    | zero => exact ⟨rfl, rfl⟩
    | succ m =>
      have ev : ∀ k, k ≤ m → via S R i m k = via S' R' (i + d) m k := fun k hk => by
        have e1 := (ih k (by omega) i fun j h1 h2 => h j h1 (by omega)).1
        have e2 := (ih (m - k) (by omega) (i + k + 1) fun j h1 h2 => h j (by omega) (by omega)).1
        have a1 := (h (i + k + 1) (by omega) (by omega)).1
        have a2 := (h i (by omega) (by omega)).1
        have a3 := (h (i + (m + 1)) (by omega) (by omega)).2
        have a4 := (h (i + k) (by omega) (by omega)).2
        rw [show i + k + 1 + d = i + d + k + 1 by omega] at a1
        rw [show i + (m + 1) + d = i + d + (m + 1) by omega] at a3
        rw [show i + k + d = i + d + k by omega] at a4
        rw [show i + k + 1 + d = i + d + k + 1 by omega] at e2
        unfold via cst
        rw [e1, e2, a1, a2, a3, a4]
        omega
      have er : rt S R i m = rt S' R' (i + d) m := amin_congr ev
      have hr := rt_le S' R' (i + d) m
      refine ⟨?_, ?_⟩
      · rw [lw_succ, lw_succ, er]
        exact ev _ hr
      · rw [lt_succ, lt_succ, er]
        rw [(ih (rt S' R' (i + d) m) (by omega) i fun j h1 h2 => h j h1 (by omega)).2]
        rw [(ih (m - rt S' R' (i + d) m) (by omega) (i + rt S' R' (i + d) m + 1) fun j h1 h2 => h j (by omega) (by omega)).2]
        rw [show i + rt S' R' (i + d) m + 1 + d = i + d + rt S' R' (i + d) m + 1 by omega]
theorem rt_shift {S R S' R' : Nat → Int} {d : Nat} {c c' : Int} {m i : Nat} (h : ∀ j, i ≤ j → j ≤ i + (m + 1) → S j = S' (j + d) + c ∧ R j = R' (j + d) + c') : rt S R i m = rt S' R' (i + d) m := by
  refine amin_congr fun k hk => ?_
  have e1 := (lw_shift (S := S) (R := R) (S' := S') (R' := R') k i fun j h1 h2 => h j h1 (by omega)).1
  have e2 := (lw_shift (S := S) (R := R) (S' := S') (R' := R') (m - k) (i + k + 1) fun j h1 h2 => h j (by omega) (by omega)).1
  have a1 := (h (i + k + 1) (by omega) (by omega)).1
  have a2 := (h i (by omega) (by omega)).1
  have a3 := (h (i + (m + 1)) (by omega) (by omega)).2
  have a4 := (h (i + k) (by omega) (by omega)).2
  rw [show i + k + 1 + d = i + d + k + 1 by omega] at a1
  rw [show i + (m + 1) + d = i + d + (m + 1) by omega] at a3
  rw [show i + k + d = i + d + k by omega] at a4
  rw [show i + k + 1 + d = i + d + k + 1 by omega] at e2
  unfold via cst
  rw [e1, e2, a1, a2, a3, a4]
  omega
theorem lw_scale {S R : Nat → Int} {c : Int} (hc : 0 < c) : ∀ m i, lw (fun j => c * S j) (fun j => c * R j) i m = c * lw S R i m := by
  intro m
  induction m using Nat.strongRecOn with
  | ind m ih =>
    intro i
    cases m with
    | zero => rw [lw_zero, lw_zero, Int.mul_zero]
    | succ m =>
      have ev : ∀ k, k ≤ m → via (fun j => c * S j) (fun j => c * R j) i m k = c * via S R i m k := fun k hk => by
        unfold via cst
        rw [ih k (by omega), ih (m - k) (by omega)]
        simp only [Int.mul_add, Int.mul_sub]
      have er : rt (fun j => c * S j) (fun j => c * R j) i m = rt S R i m := amin_like fun j k hj hk => by
        rw [ev j hj, ev k hk]
        exact Int.mul_lt_mul_left hc
      rw [lw_succ, lw_succ, er]
      exact ev _ (rt_le _ _ _ _)
theorem rt_scale {S R : Nat → Int} {c : Int} (hc : 0 < c) (i m : Nat) : rt (fun j => c * S j) (fun j => c * R j) i m = rt S R i m :=
  amin_like fun j k hj hk => by
    have ev : ∀ k, k ≤ m → via (fun j => c * S j) (fun j => c * R j) i m k = c * via S R i m k := fun k hk => by
      unfold via cst
      rw [lw_scale hc, lw_scale hc]
      simp only [Int.mul_add, Int.mul_sub]
    rw [ev j hj, ev k hk]
    exact Int.mul_lt_mul_left hc
theorem lw_add {S R S' R' : Nat → Int} : ∀ m i, lw S R i m + lw S' R' i m ≤ lw (fun j => S j + S' j) (fun j => R j + R' j) i m := by
  intro m
  induction m using Nat.strongRecOn with
  | ind m ih =>
    intro i
    cases m with
    | zero => rw [lw_zero, lw_zero, lw_zero]; decide
    | succ m =>
      rw [lw_succ (fun j => S j + S' j)]
      generalize hk : rt (fun j => S j + S' j) (fun j => R j + R' j) i m = k
      have hk2 : k ≤ m := by rw [← hk]; exact rt_le _ _ _ _
      have h1 := lw_le S R i hk2
      have h2 := lw_le S' R' i hk2
      have h3 := ih k (by omega) i
      have h4 := ih (m - k) (by omega) (i + k + 1)
      unfold via cst at *
      dsimp only at *
      omega
def Mono (S : Nat → Int) : Prop := ∀ a b, a ≤ b → S a ≤ S b
theorem lw_nonneg {S R : Nat → Int} (hS : Mono S) (hR : Mono R) : ∀ m i, 0 ≤ lw S R i m := by
  intro m
  induction m using Nat.strongRecOn with
  | ind m ih =>
    intro i
    cases m with
    | zero => exact Int.le_refl _
    | succ m =>
      rw [lw_succ]
      have hk2 := rt_le S R i m
      generalize rt S R i m = k at hk2 ⊢
      have h3 := ih k (by omega) i
      have h4 := ih (m - k) (by omega) (i + k + 1)
      have h5 := hS i (i + k + 1) (by omega)
      have h6 := hR (i + k) (i + (m + 1)) (by omega)
      unfold via cst
      omega
theorem lw_last {S R : Nat → Int} (hS : Mono S) (hR : Mono R) : ∀ m i, lw S R i m + (S (i + m + 1) - S (i + m)) + (R (i + m + 1) - R (i + m)) ≤ lw S R i (m + 1) := by
  intro m
  induction m using Nat.strongRecOn with
  | ind m ih =>
    intro i
    rw [lw_succ]
    have hk2 := rt_le S R i m
    generalize rt S R i m = k at hk2 ⊢
    by_cases e : k = m
    · subst e
      unfold via cst
      rw [Nat.sub_self, lw_zero]
      have := hS i (i + k) (by omega)
      rw [show i + (k + 1) = i + k + 1 by omega]
      omega
    · obtain ⟨m', rfl⟩ : ∃ m', m = m' + 1 := ⟨m - 1, by omega⟩
      have h3 := ih (m' - k) (by omega) (i + k + 1)
      rw [show i + k + 1 + (m' - k) + 1 = i + (m' + 1) + 1 by omega, show i + k + 1 + (m' - k) = i + (m' + 1) by omega, show m' - k + 1 = m' + 1 - k by omega] at h3
      have h4 := lw_le S R i (show k ≤ m' by omega)
      have h5 := hR (i + (m' + 1)) (i + (m' + 1) + 1) (by omega)
      unfold via cst at *
      rw [show i + (m' + 1 + 1) = i + (m' + 1) + 1 by omega]
      omega
theorem lw_front {S R : Nat → Int} (hS : Mono S) (hR : Mono R) : ∀ m i, lw S R (i + 1) m ≤ lw S R i (m + 1) := by
  intro m
  induction m using Nat.strongRecOn with
  | ind m ih =>
    intro i
    rw [lw_succ S R i]
    have hk2 := rt_le S R i m
    generalize rt S R i m = k at hk2 ⊢
    cases k with
    | zero =>
      unfold via cst
      rw [lw_zero]
      have h5 := hS i (i + 0 + 1) (by omega)
      have h6 := hR (i + 0) (i + (m + 1)) (by omega)
      rw [Nat.sub_zero]
      rw [show i + 0 + 1 = i + 1 by omega] at *
      omega
    | succ k =>
      obtain ⟨m', rfl⟩ : ∃ m', m = m' + 1 := ⟨m - 1, by omega⟩
      have h3 := ih k (by omega) i
      have h4 := lw_le S R (i + 1) (show k ≤ m' by omega)
      have h5 := hS i (i + 1) (by omega)
      unfold via cst at *
      rw [show i + 1 + k + 1 = i + (k + 1) + 1 by omega, show i + 1 + (m' + 1) = i + (m' + 1 + 1) by omega, show i + 1 + k = i + (k + 1) by omega] at h4
      rw [show m' + 1 - (k + 1) = m' - k by omega]
      omega
theorem lw_join {S R : Nat → Int} (hS : Mono S) (hR : Mono R) {i m k : Nat} (h : k ≤ m) : lw S R i m ≤ lw S R i k + lw S R (i + k) (m - k) + (S (i + k) - S i + R (i + m) - R (i + k)) := by
  cases k with
  | zero =>
    rw [lw_zero, Nat.sub_zero, Nat.add_zero]
    have := hR i (i + m) (by omega)
    omega
  | succ k =>
    obtain ⟨m', rfl⟩ : ∃ m', m = m' + 1 := ⟨m - 1, by omega⟩
    have h1 := lw_last hS hR k i
    have h2 := lw_le S R i (show k ≤ m' by omega)
    have h3 := hS (i + k) (i + k + 1) (by omega)
    unfold via cst at h2
    rw [show m' + 1 - (k + 1) = m' - k by omega, show i + (k + 1) = i + k + 1 by omega]
    omega
def insS (S : Nat → Int) (p : Nat) : Nat → Int := fun j => if j ≤ p then S j else S (j - 1)
theorem lw_before {S R : Nat → Int} {p i m : Nat} (h : i + m ≤ p) : lw (insS S p) (insS R p) i m = lw S R i m := by
  refine (lw_shift (S := insS S p) (R := insS R p) (S' := S) (R' := R) (d := 0) (c := 0) (c' := 0) m i fun j h1 h2 => ?_).1
  unfold insS
  rw [if_pos (by omega), if_pos (by omega)]
  simp
theorem lw_behind {S R : Nat → Int} {p i m : Nat} (h : p < i) : lw S R (i - 1) m = lw (insS S p) (insS R p) i m := by
  have := (lw_shift (S := S) (R := R) (S' := insS S p) (R' := insS R p) (d := 1) (c := 0) (c' := 0) m (i - 1) fun j h1 h2 => ?_).1
  · rw [this, show i - 1 + 1 = i by omega]
  · unfold insS
    rw [if_neg (by omega), if_neg (by omega)]
    simp
theorem lw_ins {S R : Nat → Int} (hS : Mono S) (hR : Mono R) {p : Nat} : ∀ m i, i ≤ p → p ≤ i + m → lw S R i m ≤ lw (insS S p) (insS R p) i (m + 1) := by
  intro m
  induction m using Nat.strongRecOn with
  | ind m ih =>
    intro i hi hp
    rw [lw_succ (insS S p)]
    have hk2 := rt_le (insS S p) (insS R p) i m
    generalize rt (insS S p) (insS R p) i m = k at hk2 ⊢
    have sL : ∀ {F : Nat → Int} {j : Nat}, j ≤ p → insS F p j = F j := fun h => if_pos h
    have sR : ∀ {F : Nat → Int} {j : Nat}, p < j → insS F p j = F (j - 1) := fun h => if_neg (by omega)
    rcases Nat.lt_trichotomy (i + k) p with h | h | h
    · obtain ⟨m', rfl⟩ : ∃ m', m = m' + 1 := ⟨m - 1, by omega⟩
      have h1 := ih (m' - k) (by omega) (i + k + 1) (by omega) (by omega)
      rw [show m' - k + 1 = m' + 1 - k by omega] at h1
      have h2 := lw_le S R i (show k ≤ m' by omega)
      unfold via cst at *
      rw [lw_before (by omega), sL (F := S) (j := i + k + 1) (by omega), sL (F := S) (j := i) (by omega), sR (F := R) (j := i + (m' + 1 + 1)) (by omega), sL (F := R) (j := i + k) (by omega), show i + (m' + 1 + 1) - 1 = i + (m' + 1) by omega]
      omega
    · have h1 := lw_join hS hR (i := i) (m := m) (k := k) hk2
      unfold via cst
      rw [lw_before (by omega), ← lw_behind (by omega), sR (F := S) (j := i + k + 1) (by omega), sL (F := S) (j := i) (by omega), sR (F := R) (j := i + (m + 1)) (by omega), sL (F := R) (j := i + k) (by omega), show i + (m + 1) - 1 = i + m by omega, show i + k + 1 - 1 = i + k by omega]
      omega
    · obtain ⟨k', rfl⟩ : ∃ k', k = k' + 1 := ⟨k - 1, by omega⟩
      obtain ⟨m', rfl⟩ : ∃ m', m = m' + 1 := ⟨m - 1, by omega⟩
      have h1 := ih k' (by omega) i (by omega) (by omega)
      have h2 := lw_le S R i (show k' ≤ m' by omega)
      unfold via cst at *
      rw [← lw_behind (p := p) (i := i + (k' + 1) + 1) (by omega), sR (F := S) (j := i + (k' + 1) + 1) (by omega), sL (F := S) (j := i) (by omega), sR (F := R) (j := i + (m' + 1 + 1)) (by omega), sR (F := R) (j := i + (k' + 1)) (by omega), show i + (m' + 1 + 1) - 1 = i + (m' + 1) by omega, show i + (k' + 1) + 1 - 1 = i + k' + 1 by omega, show i + (k' + 1) - 1 = i + k' by omega, show m' + 1 - (k' + 1) = m' - k' by omega]
      omega
/-- sums of the first ones -/
def sm (l : List Int) (k : Nat) : Int := (l.take k).sum
theorem sm_zero (l : List Int) : sm l 0 = 0 := by simp [sm]
theorem sm_succ {l : List Int} {k : Nat} {x : Int} (h : l[k]? = some x) : sm l (k + 1) = sm l k + x := by
  unfold sm
  rw [List.take_add_one, h, Option.toList_some, List.sum_append]
  simp
theorem sm_mono {l : List Int} (h : ∀ x, x ∈ l → 0 ≤ x) : Mono (sm l) := by
  intro a b hab
  induction b with
  | zero => have : a = 0 := by omega
            subst this; exact Int.le_refl _
  | succ b ih =>
    by_cases e : a = b + 1
    · rw [e]; exact Int.le_refl _
    · have h1 := ih (by omega)
      cases hx : l[b]? with
      | none =>
        have : sm l (b + 1) = sm l b := by
          unfold sm
          rw [List.take_add_one, hx]
          simp
        omega
      | some x =>
        have := h x (List.mem_of_getElem? hx)
        rw [sm_succ hx]
        omega
end MB

set_option maxHeartbeats 4000000
namespace MB
open PySem PySem.Spec PyProof.Rows L2
/-! ### min of a list of pairs of ints -/
def dP (p : Int × Int) : PyData := .tuple [.int p.1, .int p.2]
theorem dP_toD (p : Int × Int) : PySem.W.Datum.toD p = dP p := rfl
theorem dP_map (ps : List (Int × Int)) : ps.map PySem.W.Datum.toD = ps.map dP := rfl
theorem depth_dP : ∀ ps : List (Int × Int), PyData.depthAll (ps.map dP) ≤ 1
  | [] => by simp [PyData.depthAll]
  | p :: ps => by
    have := depth_dP ps
    simp only [List.map_cons, PyData.depthAll, dP, PyData.depth] at *
    omega
theorem vals_at : ∀ {xs : List V} {its : List Value}, Vals xs its → ∀ {i : Nat} {v : Value}, its[i]? = some v → ∃ x, xs[i]? = some x ∧ RelV x v
  | _, _, .nil, i, v, h => by simp at h
  | _, _, .cons r rr, 0, v, h => by
    simp at h
    subst h
    exact ⟨_, rfl, r⟩
  | _, _, .cons r rr, i + 1, v, h => by
    obtain ⟨x, h1, h2⟩ := vals_at rr (i := i) (v := v) (by simpa using h)
    exact ⟨x, by simpa using h1, h2⟩
def rMinP (K : PySem.W.Frag) : List V → Hp → VK → Prop := fun xs H Q => ∃ (a : Addr) (us : List V) (p : Int × Int) (ps : List (Int × Int)), xs = [V.ref a] ∧ SqL K H a us ∧ DpAll K H us ((p :: ps).map dP) ∧ ∀ b, SqT K H b [V.int (PySem.W.minOf p ps).1, V.int (PySem.W.minOf p ps).2] → Q (.ref b) H
theorem minOf_mem (p : Int × Int) : ∀ ps : List (Int × Int), PySem.W.minOf p ps ∈ p :: ps := by
  intro ps
  unfold PySem.W.minOf
  induction ps generalizing p with
  | nil => simp
  | cons q ps ih =>
    rw [List.foldl_cons]
    have := ih (if PySem.W.DatumOrd.lt q p = true then q else p)
    rcases List.mem_cons.mp this with h | h
    · rw [h]
      split <;> simp
    · exact List.mem_cons_of_mem _ (List.mem_cons_of_mem _ h)
theorem cr_minP {X : Cx} {K : PySem.W.Frag} (hK : X.K = K) (hc : X.calm = true) (hu : X.A.units + 64 < cLine) : CallR X (.builtin "min") (rMinP K) := by
  subst hK
  intro pins s σ H vs us Q I r h
  obtain ⟨a, xs, p, ps, rfl, hs, hA, q⟩ := h
  obtain ⟨its, rv, hl, _⟩ := I.list hs
  rw [Vals.ref1 r]
  obtain ⟨as, rd⟩ := Dp.readsAll I _ _ its hA rv
  refine PySem.W.min_list_data (x := dP p) (xs := ps.map dP) (I.ok.hd hc) hl.isList (by simpa using rd) (PySem.W.alikeAll_datum (p :: ps)) ?_ fun i v h' tk bs hv hr hk => ?_
  · have := depth_dP (p :: ps)
    rw [List.map_cons] at this
    omega
  · have e := PySem.W.minD_map p ps
    rw [dP_map, dP_toD] at e
    rw [e, dP_toD] at hr
    generalize hm : PySem.W.minOf p ps = m at hr q
    obtain ⟨x, hx, rx⟩ := vals_at rv (i := i) (v := v) (by simpa using hv)
    have hi : i < ((p :: ps).map dP).length := by
      rw [← DpAll.len hA]
      exact (List.getElem?_eq_some_iff.mp hx).1
    obtain ⟨y, hy, hD⟩ := DpAll.get hA (List.getElem?_eq_getElem hi)
    rw [hx] at hy
    cases hy
    rw [List.getElem_map] at hD
    generalize (p :: ps)[i]'_ = pr at hD
    obtain ⟨m1, m2⟩ := m
    obtain ⟨n1, n2⟩ := pr
    obtain ⟨b, ys, rfl, hS, hB⟩ := Dp.tupInv hD
    have ey := dp_ints_inv (ns := [n1, n2]) hB
    subst ey
    cases rx
    obtain ⟨jts, rj, ho, _⟩ := I.tuple hS
    obtain ⟨o, ho1, ho2, n, ho3⟩ := ho
    have ho4 := hk _ _ ho1
    cases hr with
    | tuple g1 g2 g3 g4 =>
      rw [ho4] at g1
      cases g1
      rw [ho3] at g3
      cases g3
      cases rj with
      | cons r1 r2 =>
        cases r2 with
        | cons r3 r4 =>
          cases r4
          obtain ⟨t1, rfl⟩ := r1
          obtain ⟨t2, rfl⟩ := r3
          have e2 : (m1, m2) = (n1, n2) := by
            cases g4 with
            | cons k1 k2 =>
              cases k2 with
              | cons k3 k4 =>
                cases k1
                cases k3
                rfl
          refine ⟨.ref b, H, I.kept hk, rfl, q b ?_⟩
          rw [e2]
          exact hS
/-- the least pair, if the second ones ascend by one -/
theorem minOf_amin (f : Nat → Int) (b : Nat) : ∀ n, PySem.W.minOf (f 0, (b : Int)) ((List.range n).map fun j => (f (j + 1), ((b + (j + 1) : Nat) : Int))) = (f (amin f n), ((b + amin f n : Nat) : Int))
  | 0 => rfl
  | n + 1 => by
    have ih := minOf_amin f b n
    unfold PySem.W.minOf at ih ⊢
    rw [List.range_succ, List.map_append, List.foldl_append, ih]
    show (if (if f (n + 1) = f (amin f n) then decide (((b + (n + 1) : Nat) : Int) < ((b + amin f n : Nat) : Int)) else decide (f (n + 1) < f (amin f n))) = true then (f (n + 1), ((b + (n + 1) : Nat) : Int)) else (f (amin f n), ((b + amin f n : Nat) : Int))) = _
    have hl := amin_le f n
    have ea : amin f (n + 1) = if f (n + 1) < f (amin f n) then n + 1 else amin f n := rfl
    rw [ea]
    generalize amin f n = c at hl ⊢
    by_cases h1 : f (n + 1) = f c
    · rw [if_pos h1, if_neg (by simp; omega), if_neg (by omega)]
    · rw [if_neg h1]
      by_cases h2 : f (n + 1) < f c
      · rw [if_pos (by simpa using h2), if_pos h2]
      · rw [if_neg (by simpa using h2), if_neg h2]
/-! ### an index of a list or a tuple -/
def SqQ (K : PySem.W.Frag) (H : Hp) (a : Addr) (xs : List V) : Prop := SqL K H a xs ∨ SqT K H a xs
def rIxQ (K : PySem.W.Frag) : R2 := fun x y H Q => ∃ p xs i v, x = .ref p ∧ y = .int i ∧ SqQ K H p xs ∧ atI xs i = some v ∧ Q v H
theorem k_ixQ {X : Cx} {K : PySem.W.Frag} (hK : X.K = K) : IxR X (rIxQ K) := by
  subst hK
  intro value slice pins s σ H x y v u Q I rx ry h hs
  obtain ⟨p, xs, i, w, rfl, rfl, hq, ha, q⟩ := h
  rcases hq with hq | hq
  · exact ix_list value slice pins s σ H _ _ v u Q I rx ry ⟨p, xs, i, w, rfl, rfl, hq, ha, q⟩ hs
  · exact ix_tup value slice pins s σ H _ _ v u Q I rx ry ⟨p, xs, i, w, rfl, rfl, hq, ha, q⟩ hs
/-! ### zip of two tuples -/
theorem walk_zipT {K : PySem.W.Frag} {a b : Addr} {xs ys : List V} {n : Nat} (hn : n = min xs.length ys.length) : Walk (RZ.ItzT K a b) n (fun H => SqT K H a xs ∧ SqT K H b ys) (YPair (fun i => xs[i]?) (fun i => ys[i]?)) := by
  refine ⟨fun i H hi ⟨qx, qy⟩ => ⟨xs, ys, xs[i]'(by omega), ys[i]'(by omega), qx, qy, List.getElem?_eq_getElem (by omega), List.getElem?_eq_getElem (by omega)⟩, fun H ⟨qx, qy⟩ => ⟨xs, ys, qx, qy, by omega⟩, fun i H v H' hi ⟨qx, qy⟩ y => ?_⟩
  obtain ⟨T, u, z, e1, e2, e3, e4, e5⟩ := y
  exact ⟨T, u, z, e1, e2, e3, e4 xs qx, e5 ys qy⟩
end MB

set_option maxHeartbeats 4000000
namespace MB
open PySem PySem.Spec PyProof.Rows L2
/-! ### zip of a tuple and a list -/
def ItzM (K : PySem.W.Frag) (a b : Addr) : It where
  go := fun i H => ∃ xs ys x y, SqT K H a xs ∧ SqL K H b ys ∧ xs[i]? = some x ∧ ys[i]? = some y
  yld := fun i H v H' => ∃ N x y, v = .ref N ∧ H N = none ∧ H' = upd H N (.tup [x, y]) ∧ (∀ xs, SqT K H a xs → xs[i]? = some x) ∧ (∀ ys, SqL K H b ys → ys[i]? = some y)
  stop := fun i H => ∃ xs ys, SqT K H a xs ∧ SqL K H b ys ∧ i = min xs.length ys.length
theorem apart_sep {z TI TO i1 i2 a b : Addr} (D : ZipApart z TI TO i1 i2 a b) (ha : a ≠ TO) (hb : b ≠ TO) (hb1 : b ≠ i1) (ha2 : a ≠ i2) (haz : a ≠ z) (hbz : b ≠ z) : ZipSep2 z TI TO i1 i2 [i1, a] [i2, b] where
  TIz := D.TIz
  TOz := D.TOz
  TITO := D.TITO
  TIi1 := D.TIi1
  TIi2 := D.TIi2
  mem1 := by simp
  mem2 := by simp
  zf1 := by simp only [List.mem_cons, List.not_mem_nil, or_false, not_or]; exact ⟨D.i1z.symm, haz.symm⟩
  zf2 := by simp only [List.mem_cons, List.not_mem_nil, or_false, not_or]; exact ⟨D.i2z.symm, hbz.symm⟩
  Tf1 := by simp only [List.mem_cons, List.not_mem_nil, or_false, not_or]; exact ⟨D.TOi1, ha.symm⟩
  Tf2 := by simp only [List.mem_cons, List.not_mem_nil, or_false, not_or]; exact ⟨D.TOi2, hb.symm⟩
  sep1_2 := by simp only [List.mem_cons, List.not_mem_nil, or_false, not_or]; exact ⟨D.i12, hb1.symm⟩
  sep2_1 := by simp only [List.mem_cons, List.not_mem_nil, or_false, not_or]; exact ⟨D.i12.symm, ha2.symm⟩
def StM (z TI TO i1 i2 a b : Addr) (i : Nat) (h : Heap) : Prop := IsZip h z TI TO .none ∧ IsPair h TI (.ref i1) (.ref i2) ∧ (∃ x y, IsPair h TO x y) ∧ h.IsTupleIter i1 a i ∧ h.IsListIter i2 b i
theorem in5 {c z TI TO i1 i2 : Addr} (h : c ∈ [z, TI, TO, i1, i2]) : c = z ∨ c = TI ∨ c = TO ∨ c = i1 ∨ c = i2 := by simpa using h
theorem turn_zipM {P : Program} {w : World} {K : PySem.W.Frag} {elts : List Expr} {kk : Nat} {tpos : Pos} {a b z TI TO i1 i2 : Addr} (D : ZipApart z TI TO i1 i2 a b) (S : ZipSep2 z TI TO i1 i2 [i1, a] [i2, b]) (hai : a ≠ i1) (hbi : b ≠ i2) :
    Turn P w K (.Tuple elts kk tpos) (ItzM K a b) [z, TI, TO, i1, i2] z (StM z TI TO i1 i2 a b) where
  mem := List.mem_cons_self ..
  obj := fun i h st c hc => by
    obtain ⟨q1, q2, ⟨x, y, q3⟩, ⟨o1, q4, _, q5⟩, ⟨o2, q6, _, q7⟩⟩ := st
    rcases in5 hc with e | e | e | e | e <;> subst e
    · exact ⟨_, q1, fun v e => nomatch e⟩
    · exact ⟨_, q2, fun v e => nomatch e⟩
    · exact ⟨_, q3, fun v e => nomatch e⟩
    · exact ⟨o1, q4, fun v e => by rw [q5] at e; cases e⟩
    · exact ⟨o2, q6, fun v e => by rw [q7] at e; cases e⟩
  keep := fun i h h' ⟨q1, q2, ⟨x, y, q3⟩, q4, q5⟩ k =>
    ⟨k z (by simp) _ q1, k TI (by simp) _ q2, ⟨x, y, k TO (by simp) _ q3⟩, q4.at fun o e => k i1 (by simp) o e, q5.at fun o e => k i2 (by simp) o e⟩
  item := by
    intro X hP hw hK hc i pins s σ H E I hf st hg
    subst hP hw hK
    obtain ⟨q1, q2, ⟨x0, y0, q3⟩, q4, q5⟩ := st
    obtain ⟨xs, ys, x, y, sx, sy, gx, gy⟩ := hg
    obtain ⟨its, rv, tp, _⟩ := I.tuple sx
    obtain ⟨jts, rw', lp, _⟩ := I.list sy
    obtain ⟨u, hu, ru⟩ := rv.get gx
    obtain ⟨v, hv, rv'⟩ := rw'.get gy
    have zl : z < s.heap.objs.size := Heap.lt_size q1
    have hi1 : i < its.toArray.size := by
      have := (List.getElem?_eq_some_iff.mp hu).1
      simpa using this
    have hi2 : i < jts.toArray.size := by
      have := (List.getElem?_eq_some_iff.mp hv).1
      simpa using this
    refine wpAny_pyNext_zipD2_item S (Draws.tuple (prog := X.prog) (w := X.w) (A := X.A.in1) (I.ok.hd hc) i1 a hai its.toArray) (Draws.list (prog := X.prog) (w := X.w) (A := X.A.in1) (I.ok.hd hc) i2 b hbi jts.toArray) q1 q2 q3 ⟨q4, tp⟩ ⟨q5, lp.isList⟩ hi1 hi2 fun u' v' h' tk e1 e2 z' TO' s1' s2' hT hsz hk => ?_
    have eu : u' = u := by
      rw [List.getElem?_toArray, hu] at e1
      exact (Option.some.inj e1).symm
    have ev : v' = v := by
      rw [List.getElem?_toArray, hv] at e2
      exact (Option.some.inj e2).symm
    subst eu ev
    refine ⟨_, rfl, wpAny_letOwnedTupleGo_zip (s := { s with heap := h', toks := tk }) z' fun h'' z'' sb => ?_⟩
    have hT2 := (sb.2 _ (Nat.ne_of_gt zl)).trans hT
    have new : ObjOk X.prog X.w (upd H s.heap.objs.size (.tup [x, y])) h'' s.heap.objs.size (.tup [x, y]) := ⟨by show 2 ≤ sizeLine; decide, [u', v'], .cons ru (.cons rv' .nil), ⟨_, hT2, rfl, _, rfl⟩⟩
    have hk2 : ∀ c o, c ∉ [z, TI, TO, i1, i2] → s.heap.get? c = some o → h''.get? c = some o := fun c o hb e => by
      simp only [List.mem_cons, List.not_mem_nil, or_false, not_or] at hb
      exact (sb.2 c hb.1).trans (hk c o hb.1 hb.2.2.1 hb.2.2.2.1 hb.2.2.2.2 e)
    have I1 : Inv X pins σ (upd H s.heap.objs.size (.tup [x, y])) { s with heap := h'', toks := tk } := I.turnedNew (t' := tk) (ch := [z, TI, TO, i1, i2]) hk2 hf (Nat.le_refl _) new
    refine ⟨.ref s.heap.objs.size, _, I1, rfl, ⟨s.heap.objs.size, x, y, rfl, I.hok.fresh (Nat.le_refl _), rfl, fun l hl => ?_, fun l hl => ?_⟩, ⟨z'', (sb.2 TI D.TIz).trans (hk TI _ D.TIz D.TITO D.TIi1 D.TIi2 q2), ⟨u', v', (sb.2 TO D.TOz).trans TO'⟩, s1'.1.at fun o e => (sb.2 i1 D.i1z).trans e, s2'.1.at fun o e => (sb.2 i2 D.i2z).trans e⟩, fun c hcm => ?_⟩
    · rw [I.tuple_inj hl sx]; exact gx
    · rw [I.list_inj hl sy]; exact gy
    · have cl : c < s.heap.objs.size := by
        obtain ⟨o1, d1, _⟩ := q4
        obtain ⟨o2, d2, _⟩ := q5
        rcases in5 hcm with e | e | e | e | e <;> rw [e]
        · exact zl
        · exact Heap.lt_size q2
        · exact Heap.lt_size q3
        · exact Heap.lt_size d1
        · exact Heap.lt_size d2
      rw [upd_ne (Nat.ne_of_lt cl)]
      exact (hf c hcm).1
  done := by
    intro X hP hw hK hc i pins s σ H E I hf st hg
    subst hP hw hK
    obtain ⟨q1, q2, ⟨x0, y0, q3⟩, q4, q5⟩ := st
    obtain ⟨xs, ys, sx, sy, gend⟩ := hg
    obtain ⟨its, rv, tp, _⟩ := I.tuple sx
    obtain ⟨jts, rw', lp, _⟩ := I.list sy
    have e1 := rv.length
    have e2 := rw'.length
    have hl1 : its.toArray.size = xs.length := by simp [e1]
    have hl2 : jts.toArray.size = ys.length := by simp [e2]
    refine wpAny_pyNext_zipD2_end S (Draws.tuple (prog := X.prog) (w := X.w) (A := X.A.in1) (I.ok.hd hc) i1 a hai its.toArray) (Draws.list (prog := X.prog) (w := X.w) (A := X.A.in1) (I.ok.hd hc) i2 b hbi jts.toArray) q1 q2 q3 ⟨q4, tp⟩ ⟨q5, lp.isList⟩ (by omega) (by omega) (by omega) fun h' tk hk => ⟨rfl, I.turnedL (t' := tk) (ch := [z, TI, TO, i1, i2]) (fun c o hb e => ?_) hf⟩
    simp only [List.mem_cons, List.not_mem_nil, or_false, not_or] at hb
    exact hk c o hb.1 hb.2.2.1 hb.2.2.2.1 hb.2.2.2.2 e
  self := fun A i s Q E st h => wpAny_pyIter_zip st.1 h
theorem walk_zipM {K : PySem.W.Frag} {a b : Addr} {xs ys : List V} {n : Nat} (hn : n = min xs.length ys.length) : Walk (ItzM K a b) n (fun H => SqT K H a xs ∧ SqL K H b ys) (YPair (fun i => xs[i]?) (fun i => ys[i]?)) := by
  refine ⟨fun i H hi ⟨qx, qy⟩ => ⟨xs, ys, xs[i]'(by omega), ys[i]'(by omega), qx, qy, List.getElem?_eq_getElem (by omega), List.getElem?_eq_getElem (by omega)⟩, fun H ⟨qx, qy⟩ => ⟨xs, ys, qx, qy, by omega⟩, fun i H v H' hi ⟨qx, qy⟩ y => ?_⟩
  obtain ⟨T, u, z, e1, e2, e3, e4, e5⟩ := y
  exact ⟨T, u, z, e1, e2, e3, e4 xs qx, e5 ys qy⟩
/-! its making -/
abbrev zmH1 (h : Heap) (a : Addr) : Heap := h.push { cls := .type "tuple_iterator", data := .fields #[.ref a, .int 0 0] }
abbrev zmH2 (h : Heap) (a b : Addr) : Heap := (zmH1 h a).push { cls := .type "list_iterator", data := .fields #[.ref b, .int 0 0] }
abbrev zmH3 (h : Heap) (a b : Addr) : Heap := (zmH2 h a b).push { cls := .type "tuple", data := .seq #[.ref h.objs.size, .ref (zmH1 h a).objs.size] }
abbrev zmH4 (h : Heap) (a b : Addr) : Heap := (zmH3 h a b).push { cls := .type "tuple", data := .seq #[.none, .none] }
abbrev zmH5 (h : Heap) (a b : Addr) : Heap := (zmH4 h a b).push { cls := .type "zip", data := .fields #[.none, .bool false, .bool false, .ref (zmH2 h a b).objs.size, .ref (zmH3 h a b).objs.size] }
theorem meets_zipM (a b : Addr) (xs ys : Array Value) :
    Meets (Builtin.«zip.__new__» ⟨[.type "zip", .ref a, .ref b], []⟩) (fun _ R s => s.heap.IsTuple a xs ∧ s.heap.IsList b ys ∧ R (.ok (.ret (.ref (zmH4 s.heap a b).objs.size))) { s with heap := zmH5 s.heap a b }) :=
  .of_wp fun prog w A R s h => by
    obtain ⟨hp, g, d, tk, os⟩ := s
    obtain ⟨ha, hb, h⟩ := h
    have hsub := sub_zip
    have hA : Heap.IsTuple (Shared.heap ⟨hp, g, d, tk, os⟩) a xs := ha
    have hB : Heap.IsList (Shared.heap ⟨hp.push { cls := .type "tuple_iterator", data := .fields #[.ref a, .int 0 0] }, g, d, tk, os⟩) b ys := Heap.IsList.push hb _
    wp_walk using wpAny_pyIter_tuple hA, wpAny_pyIter_list hB
    exact ⟨_, rfl, h⟩
section
variable {prog : Program} {w : World} {A : Around} {E : Value → Shared → Prop} {s : Shared}
theorem call_zipM {a b : Addr} {xs ys : Array Value} {Q : Value → Shared → Prop} (ha : s.heap.IsTuple a xs) (hb : s.heap.IsList b ys)
    (h : ∀ h', StM (s.heap.objs.size + 4) (s.heap.objs.size + 2) (s.heap.objs.size + 3) s.heap.objs.size (s.heap.objs.size + 1) a b 0 h' → (∀ c o, s.heap.get? c = some o → h'.get? c = some o) → Q (.ref (s.heap.objs.size + 4)) { s with heap := h' }) :
    wpAny (model prog w) A (call (.type "zip") [.ref a, .ref b]) Q E s := by
  refine callType_new F.called_zip (by decide) (F.typeCall_zip_2 _ _) (F.newCall_zip_2 _ _) (fun obj => F.args_object_init_3 obj _ _) F.entry_zip_new (meets_zipM a b xs ys) ⟨ha, hb, ?_⟩
  have n1 : (zmH1 s.heap a).objs.size = s.heap.objs.size + 1 := Heap.size_push _ _
  have n2 : (zmH2 s.heap a b).objs.size = s.heap.objs.size + 2 := (Heap.size_push _ _).trans (by rw [n1])
  have n3 : (zmH3 s.heap a b).objs.size = s.heap.objs.size + 3 := (Heap.size_push _ _).trans (by rw [n2])
  have n4 : (zmH4 s.heap a b).objs.size = s.heap.objs.size + 4 := (Heap.size_push _ _).trans (by rw [n3])
  have k5 : (zmH5 s.heap a b).get? (zmH4 s.heap a b).objs.size = some _ := Heap.get?_push_size _ rfl
  have k4 : (zmH5 s.heap a b).get? (zmH3 s.heap a b).objs.size = some _ := Heap.get?_push_of_some _ (Heap.get?_push_size _ rfl)
  have k3 : (zmH5 s.heap a b).get? (zmH2 s.heap a b).objs.size = some _ := Heap.get?_push_of_some _ (Heap.get?_push_of_some _ (Heap.get?_push_size _ rfl))
  have k2 : (zmH5 s.heap a b).get? (zmH1 s.heap a).objs.size = some _ := Heap.get?_push_of_some _ (Heap.get?_push_of_some _ (Heap.get?_push_of_some _ (Heap.get?_push_size _ rfl)))
  have k1 : (zmH5 s.heap a b).get? s.heap.objs.size = some _ := Heap.get?_push_of_some _ (Heap.get?_push_of_some _ (Heap.get?_push_of_some _ (Heap.get?_push_of_some _ (Heap.get?_push_size _ rfl))))
  show _ ∧ _
  rw [n2, n3, n4] at k5
  rw [n3] at k4
  rw [n1, n2] at k3
  rw [n1] at k2
  rw [n4]
  have kept : ∀ c o, s.heap.get? c = some o → (zmH5 s.heap a b).get? c = some o := fun c o e => by
    iterate 5 refine Heap.get?_push_of_some _ ?_
    exact e
  exact ⟨⟨_, k5, rfl⟩, h _ ⟨k5, k3, ⟨_, _, k4⟩, ⟨_, k1, rfl, rfl⟩, ⟨_, k2, rfl, rfl⟩⟩ kept⟩
end
def iZipM (K : PySem.W.Frag) (ta : TA) : TI := fun σ H R => ta σ H fun vs H1 => ∃ a b xs ys, vs = [.ref a, .ref b] ∧ SqT K H1 a xs ∧ SqL K H1 b ys ∧ R (ItzM K a b) H1
theorem ne5 {n c : Nat} (h : c < n) : c ≠ n ∧ c ≠ n + 1 ∧ c ≠ n + 3 ∧ c ≠ n + 4 := by omega
theorem pi_zipM {X : Cx} {K : PySem.W.Frag} (hK : X.K = K) {e e2 : Expr} {ta : TA} {p pos tpos : Pos} {elts : List Expr} {kk : Nat} (hg : Gl X "zip") (hm : X.mg "zip" = none) (ha : PA X [e, e2] ta) (hs : starEach [e, e2] X.env = (false, eval e X.env) :: starEach [e2] X.env := by rfl)
    (hpl : (backTo pos (starEach [e2] X.env)).any (·.1) = false := by rfl) : PI X (.Tuple elts kk tpos) (.Call (.Name "zip" p) [e, e2] [] pos) (iZipM K ta) := by
  subst hK
  refine ⟨fun pins s σ H R I h => ?_⟩
  refine Call_ (ld_blt I hg hm PyProof.Rows.boot_zip (PyProof.Rows.callWith_type1 (thn (ha.run pos pins s σ H _ I h) fun us s1 ⟨vs, H1, I1, r1, q1⟩ => ?_) hs hpl))
  obtain ⟨a, b, xs, ys, rfl, sx, sy, q⟩ := q1
  cases r1 with
  | cons r2 r3 =>
    cases r3 with
    | cons r4 r5 =>
      cases r5
      cases r2
      cases r4
      obtain ⟨its, rv, tp, _⟩ := I1.tuple sx
      obtain ⟨jts, rw', lp, _⟩ := I1.list sy
      obtain ⟨o1, d1, _⟩ := id tp
      have al := ne5 (Heap.lt_size d1)
      have bl := ne5 lp.lt
      have D := PySem.W.ktu_apart s1.heap.objs.size a b (Heap.lt_size d1) lp.lt
      refine call_zipM (show s1.heap.IsTuple a its.toArray from tp) lp.isList fun h' st hk => wpAny_pyIter_zip st.1 ?_
      have I2 : Inv X pins σ H1 { s1 with heap := h' } := I1.kept (t' := s1.toks) hk
      refine ⟨s1.heap.objs.size + 4, [s1.heap.objs.size + 4, s1.heap.objs.size + 2, s1.heap.objs.size + 3, s1.heap.objs.size, s1.heap.objs.size + 1], _, _, H1, rfl, I2, turn_zipM D (apart_sep D al.2.2.1 bl.2.2.1 bl.1 al.2.1 al.2.2.2 bl.2.2.2) al.1 bl.2.1, st, fun c hc => ?_, q⟩
      have cl : s1.heap.objs.size ≤ c := by
        rcases in5 hc with z | z | z | z | z <;> rw [z] <;> first | exact Nat.le_refl _ | exact Nat.le_add_right _ _
      exact I1.fpOk cl (I1.hok.fresh cl)
end MB

set_option maxHeartbeats 4000000
namespace MB
open PySem PySem.Spec PyProof.Rows L2
/-! ### zip of three tuples -/
def It3 (K : PySem.W.Frag) (a b d : Addr) : It where
  go := fun i H => ∃ xs ys zs x y z, SqT K H a xs ∧ SqT K H b ys ∧ SqT K H d zs ∧ xs[i]? = some x ∧ ys[i]? = some y ∧ zs[i]? = some z
  yld := fun i H v H' => ∃ N x y z, v = .ref N ∧ H N = none ∧ H' = upd H N (.tup [x, y, z]) ∧ (∀ xs, SqT K H a xs → xs[i]? = some x) ∧ (∀ ys, SqT K H b ys → ys[i]? = some y) ∧ (∀ zs, SqT K H d zs → zs[i]? = some z)
  stop := fun i H => ∃ xs ys zs, SqT K H a xs ∧ SqT K H b ys ∧ SqT K H d zs ∧ i = min (min xs.length ys.length) zs.length
def St3z (z TI TO i1 i2 i3 a b d : Addr) (i : Nat) (h : Heap) : Prop := IsZip h z TI TO .none ∧ IsTupOf3 h TI (.ref i1) (.ref i2) (.ref i3) ∧ (∃ x y u, IsTupOf3 h TO x y u) ∧ h.IsTupleIter i1 a i ∧ h.IsTupleIter i2 b i ∧ h.IsTupleIter i3 d i
theorem in6 {c z TI TO i1 i2 i3 : Addr} (h : c ∈ [z, TI, TO, i1, i2, i3]) : c = z ∨ c = TI ∨ c = TO ∨ c = i1 ∨ c = i2 ∨ c = i3 := by simpa using h
theorem turn_zip3 {P : Program} {w : World} {K : PySem.W.Frag} {elts : List Expr} {kk : Nat} {tpos : Pos} {a b d z TI TO i1 i2 i3 : Addr} (S : ZipSep3 z TI TO i1 i2 i3 [i1, a] [i2, b] [i3, d]) (hai : a ≠ i1) (hbi : b ≠ i2) (hdi : d ≠ i3) :
    Turn P w K (.Tuple elts kk tpos) (It3 K a b d) [z, TI, TO, i1, i2, i3] z (St3z z TI TO i1 i2 i3 a b d) where
  mem := List.mem_cons_self ..
  obj := fun i h st c hc => by
    obtain ⟨q1, q2, ⟨x, y, u, q3⟩, ⟨o1, q4, _, q5⟩, ⟨o2, q6, _, q7⟩, ⟨o3, q8, _, q9⟩⟩ := st
    rcases in6 hc with e | e | e | e | e | e <;> subst e
    · exact ⟨_, q1, fun v e => nomatch e⟩
    · exact ⟨_, q2, fun v e => nomatch e⟩
    · exact ⟨_, q3, fun v e => nomatch e⟩
    · exact ⟨o1, q4, fun v e => by rw [q5] at e; cases e⟩
    · exact ⟨o2, q6, fun v e => by rw [q7] at e; cases e⟩
    · exact ⟨o3, q8, fun v e => by rw [q9] at e; cases e⟩
  keep := fun i h h' ⟨q1, q2, ⟨x, y, u, q3⟩, q4, q5, q6⟩ k =>
    ⟨k z (by simp) _ q1, k TI (by simp) _ q2, ⟨x, y, u, k TO (by simp) _ q3⟩, q4.at fun o e => k i1 (by simp) o e, q5.at fun o e => k i2 (by simp) o e, q6.at fun o e => k i3 (by simp) o e⟩
  item := by
    intro X hP hw hK hc i pins s σ H E I hf st hg
    subst hP hw hK
    obtain ⟨q1, q2, ⟨x0, y0, u0, q3⟩, q4, q5, q6⟩ := st
    obtain ⟨xs, ys, zs, x, y, t, sx, sy, sz, gx, gy, gz⟩ := hg
    obtain ⟨its, rv, tp, _⟩ := I.tuple sx
    obtain ⟨jts, rw', lp, _⟩ := I.tuple sy
    obtain ⟨kts, rz, kp, _⟩ := I.tuple sz
    obtain ⟨u, hu, ru⟩ := rv.get gx
    obtain ⟨v, hv, rv'⟩ := rw'.get gy
    obtain ⟨t', ht, rt⟩ := rz.get gz
    have zl : z < s.heap.objs.size := Heap.lt_size q1
    have hi1 : i < its.toArray.size := by
      have := (List.getElem?_eq_some_iff.mp hu).1
      simpa using this
    have hi2 : i < jts.toArray.size := by
      have := (List.getElem?_eq_some_iff.mp hv).1
      simpa using this
    have hi3 : i < kts.toArray.size := by
      have := (List.getElem?_eq_some_iff.mp ht).1
      simpa using this
    refine wpAny_pyNext_zipD3_item S (Draws.tuple (prog := X.prog) (w := X.w) (A := X.A.in1) (I.ok.hd hc) i1 a hai its.toArray) (Draws.tuple (prog := X.prog) (w := X.w) (A := X.A.in1) (I.ok.hd hc) i2 b hbi jts.toArray) (Draws.tuple (prog := X.prog) (w := X.w) (A := X.A.in1) (I.ok.hd hc) i3 d hdi kts.toArray) q1 q2 q3 ⟨q4, tp⟩ ⟨q5, lp⟩ ⟨q6, kp⟩ hi1 hi2 hi3 fun u' v' w' h' tk e1 e2 e3 z' TO' s1' s2' s3' hT hsz hk => ?_
    have eu : u' = u := by
      rw [List.getElem?_toArray, hu] at e1
      exact (Option.some.inj e1).symm
    have ev : v' = v := by
      rw [List.getElem?_toArray, hv] at e2
      exact (Option.some.inj e2).symm
    have ew : w' = t' := by
      rw [List.getElem?_toArray, ht] at e3
      exact (Option.some.inj e3).symm
    subst eu ev ew
    refine ⟨_, rfl, wpAny_letOwnedTupleGo_zip (s := { s with heap := h', toks := tk }) z' fun h'' z'' sb => ?_⟩
    have hT2 := (sb.2 _ (Nat.ne_of_gt zl)).trans hT
    have new : ObjOk X.prog X.w (upd H s.heap.objs.size (.tup [x, y, t])) h'' s.heap.objs.size (.tup [x, y, t]) := ⟨by show 3 ≤ sizeLine; decide, [u', v', w'], .cons ru (.cons rv' (.cons rt .nil)), ⟨_, hT2, rfl, _, rfl⟩⟩
    have hk2 : ∀ c o, c ∉ [z, TI, TO, i1, i2, i3] → s.heap.get? c = some o → h''.get? c = some o := fun c o hb e => by
      simp only [List.mem_cons, List.not_mem_nil, or_false, not_or] at hb
      exact (sb.2 c hb.1).trans (hk c o hb.1 hb.2.2.1 hb.2.2.2.1 hb.2.2.2.2.1 hb.2.2.2.2.2 e)
    have I1 : Inv X pins σ (upd H s.heap.objs.size (.tup [x, y, t])) { s with heap := h'', toks := tk } := I.turnedNew (t' := tk) (ch := [z, TI, TO, i1, i2, i3]) hk2 hf (Nat.le_refl _) new
    refine ⟨.ref s.heap.objs.size, _, I1, rfl, ⟨s.heap.objs.size, x, y, t, rfl, I.hok.fresh (Nat.le_refl _), rfl, fun l hl => ?_, fun l hl => ?_, fun l hl => ?_⟩, ⟨z'', (sb.2 TI S.TIz).trans (hk TI _ S.TIz S.TITO S.TIi1 S.TIi2 S.TIi3 q2), ⟨u', v', w', (sb.2 TO S.TOz).trans TO'⟩, s1'.1.at fun o e => (sb.2 i1 S.zi1.symm).trans e, s2'.1.at fun o e => (sb.2 i2 S.zi2.symm).trans e, s3'.1.at fun o e => (sb.2 i3 S.zi3.symm).trans e⟩, fun c hcm => ?_⟩
    · rw [I.tuple_inj hl sx]; exact gx
    · rw [I.tuple_inj hl sy]; exact gy
    · rw [I.tuple_inj hl sz]; exact gz
    · have cl : c < s.heap.objs.size := by
        obtain ⟨o1, d1, _⟩ := q4
        obtain ⟨o2, d2, _⟩ := q5
        obtain ⟨o3, d3, _⟩ := q6
        rcases in6 hcm with e | e | e | e | e | e <;> rw [e]
        · exact zl
        · exact Heap.lt_size q2
        · exact Heap.lt_size q3
        · exact Heap.lt_size d1
        · exact Heap.lt_size d2
        · exact Heap.lt_size d3
      rw [upd_ne (Nat.ne_of_lt cl)]
      exact (hf c hcm).1
  done := by
    intro X hP hw hK hc i pins s σ H E I hf st hg
    subst hP hw hK
    obtain ⟨q1, q2, ⟨x0, y0, u0, q3⟩, q4, q5, q6⟩ := st
    obtain ⟨xs, ys, zs, sx, sy, sz, gend⟩ := hg
    obtain ⟨its, rv, tp, _⟩ := I.tuple sx
    obtain ⟨jts, rw', lp, _⟩ := I.tuple sy
    obtain ⟨kts, rz, kp, _⟩ := I.tuple sz
    have e1 := rv.length
    have e2 := rw'.length
    have e3 := rz.length
    have hl1 : its.toArray.size = xs.length := by simp [e1]
    have hl2 : jts.toArray.size = ys.length := by simp [e2]
    have hl3 : kts.toArray.size = zs.length := by simp [e3]
    refine wpAny_pyNext_zipD3_end S (Draws.tuple (prog := X.prog) (w := X.w) (A := X.A.in1) (I.ok.hd hc) i1 a hai its.toArray) (Draws.tuple (prog := X.prog) (w := X.w) (A := X.A.in1) (I.ok.hd hc) i2 b hbi jts.toArray) (Draws.tuple (prog := X.prog) (w := X.w) (A := X.A.in1) (I.ok.hd hc) i3 d hdi kts.toArray) q1 q2 q3 ⟨q4, tp⟩ ⟨q5, lp⟩ ⟨q6, kp⟩ (by omega) (by omega) (by omega) (by omega) fun h' tk hk => ⟨rfl, I.turnedL (t' := tk) (ch := [z, TI, TO, i1, i2, i3]) (fun c o hb e => ?_) hf⟩
    simp only [List.mem_cons, List.not_mem_nil, or_false, not_or] at hb
    exact hk c o hb.1 hb.2.2.1 hb.2.2.2.1 hb.2.2.2.2.1 hb.2.2.2.2.2 e
  self := fun A i s Q E st h => wpAny_pyIter_zip st.1 h
/-- what three of them give -/
def YTrip (xs ys zs : Nat → Option V) : Nat → Hp → V → Hp → Prop := fun i H v H' => ∃ T x y z, v = .ref T ∧ H T = none ∧ H' = upd H T (.tup [x, y, z]) ∧ xs i = some x ∧ ys i = some y ∧ zs i = some z
theorem walk_zip3 {K : PySem.W.Frag} {a b d : Addr} {xs ys zs : List V} {n : Nat} (hn : n = min (min xs.length ys.length) zs.length) : Walk (It3 K a b d) n (fun H => SqT K H a xs ∧ SqT K H b ys ∧ SqT K H d zs) (YTrip (fun i => xs[i]?) (fun i => ys[i]?) (fun i => zs[i]?)) := by
  refine ⟨fun i H hi ⟨qx, qy, qz⟩ => ⟨xs, ys, zs, xs[i]'(by omega), ys[i]'(by omega), zs[i]'(by omega), qx, qy, qz, List.getElem?_eq_getElem (by omega), List.getElem?_eq_getElem (by omega), List.getElem?_eq_getElem (by omega)⟩, fun H ⟨qx, qy, qz⟩ => ⟨xs, ys, zs, qx, qy, qz, by omega⟩, fun i H v H' hi ⟨qx, qy, qz⟩ y => ?_⟩
  obtain ⟨T, u, z, t, e1, e2, e3, e4, e5, e6⟩ := y
  exact ⟨T, u, z, t, e1, e2, e3, e4 xs qx, e5 ys qy, e6 zs qz⟩
def iZip3 (K : PySem.W.Frag) (ta : TA) : TI := fun σ H R => ta σ H fun vs H1 => ∃ a b d xs ys zs, vs = [.ref a, .ref b, .ref d] ∧ SqT K H1 a xs ∧ SqT K H1 b ys ∧ SqT K H1 d zs ∧ R (It3 K a b d) H1
theorem pi_zip3 {X : Cx} {K : PySem.W.Frag} (hK : X.K = K) {e e2 e3 : Expr} {ta : TA} {p pos tpos : Pos} {elts : List Expr} {kk : Nat} (hg : Gl X "zip") (hm : X.mg "zip" = none) (ha : PA X [e, e2, e3] ta) (hs : starEach [e, e2, e3] X.env = (false, eval e X.env) :: starEach [e2, e3] X.env := by rfl)
    (hpl : (backTo pos (starEach [e2, e3] X.env)).any (·.1) = false := by rfl) : PI X (.Tuple elts kk tpos) (.Call (.Name "zip" p) [e, e2, e3] [] pos) (iZip3 K ta) := by
  subst hK
  refine ⟨fun pins s σ H R I h => ?_⟩
  refine Call_ (ld_blt I hg hm PyProof.Rows.boot_zip (PyProof.Rows.callWith_type1 (thn (ha.run pos pins s σ H _ I h) fun us s1 ⟨vs, H1, I1, r1, q1⟩ => ?_) hs hpl))
  obtain ⟨a, b, d, xs, ys, zs, rfl, sx, sy, sz, q⟩ := q1
  cases r1 with
  | cons r2 r3 =>
    cases r3 with
    | cons r4 r5 =>
      cases r5 with
      | cons r6 r7 =>
        cases r7
        cases r2
        cases r4
        cases r6
        obtain ⟨its, rv, tp, _⟩ := I1.tuple sx
        obtain ⟨jts, rw', lp, _⟩ := I1.tuple sy
        obtain ⟨kts, rz, kp, _⟩ := I1.tuple sz
        have al : a < s1.heap.objs.size := by obtain ⟨o1, d1, _⟩ := id tp; exact Heap.lt_size d1
        have bl : b < s1.heap.objs.size := by obtain ⟨o1, d1, _⟩ := id lp; exact Heap.lt_size d1
        have dl : d < s1.heap.objs.size := by obtain ⟨o1, d1, _⟩ := id kp; exact Heap.lt_size d1
        have S := zip_sep3 (N := s1.heap.objs.size) (fp1 := [a]) (fp2 := [b]) (fp3 := [d]) (by simpa using al) (by simpa using bl) (by simpa using dl)
        refine zip_begins3 (begins_tuple a its.toArray) (begins_tuple b jts.toArray) (begins_tuple d kts.toArray) tp lp kp fun h' z1 z2 z3 g1 g2 g3 hsz hk => wpAny_pyIter_zip z1 ?_
        have I2 : Inv X pins σ H1 { s1 with heap := h' } := I1.kept (t' := s1.toks) hk
        refine ⟨s1.heap.objs.size + 5, [s1.heap.objs.size + 5, s1.heap.objs.size + 3, s1.heap.objs.size + 4, s1.heap.objs.size, s1.heap.objs.size + 1, s1.heap.objs.size + 2], _, _, H1, rfl, I2, turn_zip3 S (Nat.ne_of_lt al) (Nat.ne_of_lt (Nat.lt_succ_of_lt bl)) (Nat.ne_of_lt (Nat.lt_succ_of_lt (Nat.lt_succ_of_lt dl))), ⟨z1, z2, ⟨_, _, _, z3⟩, ⟨_, g1, rfl, rfl⟩, ⟨_, g2, rfl, rfl⟩, ⟨_, g3, rfl, rfl⟩⟩, fun c hc => ?_, q⟩
        have cl : s1.heap.objs.size ≤ c := by
          rcases in6 hc with z | z | z | z | z | z <;> rw [z] <;> first | exact Nat.le_refl _ | exact Nat.le_add_right _ _
        exact I1.fpOk cl (I1.hok.fresh cl)
end MB

set_option maxHeartbeats 4000000
namespace MB
open PySem PySem.Spec PyProof.Rows L2
/-! ### a tuple from its end: t[::-1] -/
theorem adj_rev (n : Nat) : Builtin.Slice.sliceAdjust none none (-1) (n : Int) = ((n : Int) - 1, -1) := rfl
theorem places_rev (n : Nat) : Builtin.Slice.slicePlaces ((n : Int) - 1) (-1) (-1) = n := by
  unfold Builtin.Slice.slicePlaces
  have h1 : ¬ ((-1 : Int) > 0) := by omega
  simp only [h1, if_false]
  have h2 : -(-1 : Int) = 1 := by decide
  rw [h2, Int.ediv_one]
  split <;> omega
theorem pick_rev (xs : Array Value) : ((List.range xs.size).filterMap fun (k : Nat) => xs[(((xs.size : Int) - 1) + (k : Int) * (-1)).toNat]?).toArray = xs.toList.reverse.toArray := by
  congr 1
  have key : ∀ k, k < xs.size → xs[(((xs.size : Int) - 1) + (k : Int) * (-1)).toNat]? = some (xs.toList.reverse.getD k .none) := fun k hk => by
    have e : (((xs.size : Int) - 1) + (k : Int) * (-1)).toNat = xs.size - 1 - k := by omega
    have hl : k < xs.toList.reverse.length := by simpa using hk
    rw [e, List.getD_eq_getElem?_getD, List.getElem?_eq_getElem hl, Option.getD_some, List.getElem_reverse]
    rw [Array.getElem?_eq_getElem (by omega)]
    simp
  have h2 : (List.range xs.size).filterMap (fun (k : Nat) => xs[(((xs.size : Int) - 1) + (k : Int) * (-1)).toNat]?) = (List.range xs.size).map fun k => xs.toList.reverse.getD k .none := by
    have aux : ∀ (l : List Nat), (∀ k, k ∈ l → k < xs.size) → l.filterMap (fun (k : Nat) => xs[(((xs.size : Int) - 1) + (k : Int) * (-1)).toNat]?) = l.map fun k => xs.toList.reverse.getD k .none := by
      intro l
      induction l with
      | nil => intro _; rfl
      | cons a l ih =>
        intro h
        rw [List.filterMap_cons, key a (h a (List.mem_cons_self ..)), ih fun k hk => h k (List.mem_cons_of_mem _ hk)]
        rfl
    exact aux _ fun k hk => List.mem_range.mp hk
  rw [h2]
  refine List.ext_getElem (by simp) fun k h3 h4 => ?_
  rw [List.getElem_map, List.getElem_range, List.getD_eq_getElem?_getD, List.getElem?_eq_getElem h4, Option.getD_some]
section
variable {prog : Program} {w : World} {A : Around} {E : Value → Shared → Prop} {s : Shared}
theorem applied_rev {sl : Addr} {vl vu vs : Value} {n : Nat} {Q : Int × Int × Nat → Shared → Prop} (hs : s.heap.IsSliceOf sl vl vu vs) (pl : IsPart vl none) (pu : IsPart vu none) (ps : IsPart vs (some (-1)))
    (h : Q ((n : Int) - 1, -1, n) s) : wpAny (model prog w) A (Builtin.Slice.sliceApplied (.ref sl) (pure (n : Int))) Q E s := by
  obtain ⟨os, hos, hcs, hds⟩ := id hs
  unfold Builtin.Slice.sliceApplied Builtin.Slice.sliceFields
  refine wpAny_bind (wpAny_bind (wpAny_field hos hds (x := vl) rfl (wpAny_bind (wpAny_field hos hds (x := vu) rfl (wpAny_bind (wpAny_field hos hds (x := vs) rfl (wpAny_pure ?_)))))))
  refine wpAny_bind (HT.slicePart_ ps ?_)
  show wpAny _ _ (if ((-1 : Int) == 0) = true then _ else _) _ _ s
  rw [if_neg (by decide)]
  refine wpAny_bind (HT.slicePart_ pl (wpAny_bind (HT.slicePart_ pu (wpAny_bind (wpAny_pure ?_)))))
  show wpAny _ _ (match Builtin.Slice.sliceAdjust none none (-1) (n : Int) with | (lo, hi) => pure (lo, (-1 : Int), Builtin.Slice.slicePlaces lo hi (-1))) _ _ s
  rw [adj_rev]
  show wpAny _ _ (pure ((n : Int) - 1, (-1 : Int), Builtin.Slice.slicePlaces ((n : Int) - 1) (-1) (-1))) _ _ s
  rw [places_rev]
  exact wpAny_pure h
theorem getItem_rev {t sl : Addr} {items : Array Value} {vl vu vs : Value} {Q : Value → Shared → Prop} (ht : IsTup s.heap t items) (hs : s.heap.IsSliceOf sl vl vu vs) (pl : IsPart vl none) (pu : IsPart vu none) (ps : IsPart vs (some (-1)))
    (h : Q (.ref s.heap.objs.size) { s with heap := s.heap.push { cls := .type "tuple", data := .seq items.toList.reverse.toArray } }) (hsz : items.size ≤ sizeLine) : wpAny (model prog w) A (getItem (.ref t) (.ref sl)) Q E s := by
  have hok : sizeOk (.seq items.toList.reverse.toArray) := by
    show items.toList.reverse.toArray.size ≤ sizeLine
    simpa using hsz
  obtain ⟨os, hos, hcs, hds⟩ := id hs
  have hTs : s.TypeIs (.ref sl) "slice" := ⟨os, hos, hcs⟩
  unfold getItem
  (try with_reducible refine wpAny_holding ?_)
  (first | refine wpAny_bind (wpAny_pure ?_) | skip)
  refine wpAny_bind (wpAny_sequenceKey ht.typeIs (by decide) (wpAny_bind (wpAny_callSpecial?_slot (name := Str.ofString "__getitem__") ht.typeIs PyProof.Rows.slot_tuple_getitem (wpAny_call_entry PyProof.Rows.slot_tuple_getitem ht.typeIs entry_tuple_getitem ?_ (args_tuple_getitem _ _)))))
  show wpAny _ _ (Builtin.Tuple.tupleItemsOf (.ref t) >>= _) _ _ s
  refine wpAny_bind (tupleItemsOf_ ht (wpAny_bind (wpAny_typeOf hTs ?_)))
  rw [if_pos (by decide)]
  refine wpAny_bind (applied_rev hs pl pu ps ?_)
  show wpAny _ _ (if (((items.size : Int) - 1) == 0 && (-1 : Int) == 1 && items.size == items.size) = true then _ else _) _ _ s
  rw [if_neg (by simp), pick_rev]
  exact wpAny_bind (m := Builtin.Tuple.tupleExact _) (wpAny_newObj_type (wpAny_pure ⟨_, rfl, wpAny_pure h⟩) hok)
end
def tRevT (K : PySem.W.Frag) (te : TE) : TE := fun σ H Q => te σ H fun x H1 => ∃ a xs, x = .ref a ∧ SqT K H1 a xs ∧ ∀ p, H1 p = none → Q (.ref p) (upd H1 p (.tup xs.reverse))
theorem pe_revT {X : Cx} {K : PySem.W.Frag} (hK : X.K = K) {e : Expr} {te : TE} {k : Nat} {p1 p2 p3 pos : PySem.Pos} (he : PE X e te) : PE X (.Subscript e (.Slice none none (some (.UnaryOp .USub (.Constant (.int 1) k p1) p2)) p3) pos) (tRevT K te) := by
  subst hK
  refine ⟨fun pins s σ H Q I h => ?_⟩
  refine Subscript_ (thn (he.run pins s σ H _ I h) fun v s1 ⟨x, H1, I1, r1, q1⟩ => ?_)
  obtain ⟨a, xs, rfl, hx, q⟩ := q1
  cases r1
  have hst : PO X (some (.UnaryOp .USub (.Constant (.int 1) k p1) p2)) (tPart (tUn (rU fun i => .int (-i)) (tC (.int 1)))) := po_some (pe_un un_neg pe_int)
  refine wpAny_Slice (thn (po_none.run pins s1 σ H1 (fun o H2 => o = none ∧ H2 = H1) I1 ⟨rfl, rfl⟩) fun vl s2 ⟨lo, H2, I2, pl, elo, eH⟩ => ?_)
  cases elo; cases eH
  refine thn (po_none.run pins s2 σ H1 (fun o H3 => o = none ∧ H3 = H1) I2 ⟨rfl, rfl⟩) fun vu s3 ⟨hi, H3, I3, pu, ehi, eH⟩ => ?_
  cases ehi; cases eH
  refine thn (hst.run pins s3 σ H1 (fun o H4 => o = some (-1) ∧ H4 = H1) I3 ⟨1, rfl, -1, rfl, rfl, rfl⟩) fun vs s4 ⟨st, H4, I4, ps, est, eH⟩ => ?_
  cases est; cases eH
  have I5 : Inv X pins σ H1 { s4 with heap := s4.heap.push { cls := .type "slice", data := .fields #[vl, vu, vs] } } := I4.kept (t' := s4.toks) fun b ob e => Heap.get?_push_of_some _ e
  obtain ⟨its, r, ht, hz⟩ := I5.tuple hx
  have hlen := r.length
  show wpAny (model X.prog X.w) X.A (subscriptTail e (.Slice none none (some (.UnaryOp .USub (.Constant (.int 1) k p1) p2)) p3) (.ref a) (.ref s4.heap.objs.size)) (EP X pins σ Q) X.xe { s4 with heap := s4.heap.push { cls := .type "slice", data := .fields #[vl, vu, vs] } }
  refine tail_any (ops := [.ref a, .ref s4.heap.objs.size]) ht.typeIs (PyProof.Rows.slot_tuple_getitem.lookup) ?_ (by with_unfolding_all rfl)
  refine getItem_rev ht (Heap.IsSliceOf.new _ vl vu vs) pl pu ps ?_ (by rw [List.size_toArray]; omega)
  refine ⟨.ref _, _, I5.laid (t' := s4.toks) (o := .tup xs.reverse) (fun b ob e => Heap.get?_push_of_some _ e) (Nat.le_refl _) ?_, rfl, q _ (I5.hok.fresh (Nat.le_refl _))⟩
  exact ⟨by rw [List.length_reverse]; exact hz, its.reverse, r.reverse, IsTup.new _ _⟩
end MB

set_option maxHeartbeats 4000000
namespace MB
open PySem PySem.Spec PyProof.Rows L2
/-! ### a body whose first statement never ends in order -/
theorem pss_stop {X : Cx} {st : Stmt} {rest : List Stmt} {t : TS} (h1 : PS X st t) : PSs X (st :: rest) (fun D σ H => t { D with nx := fun _ _ => False } σ H) := by
  refine ⟨fun pins s σ H D I h => ?_⟩
  refine wpAny_execs_cons (thn (h1.run pins s σ H { D with nx := fun _ _ => False } I h) fun f s1 q => ?_)
  cases f with
  | next =>
    obtain ⟨_, _, _, q⟩ := q
    exact q.elim
  | ret v => exact q
  | brk => exact q
  | cont => exact q
/-! ### texts of data are texts -/
theorem strOk_of (s : String) : PyData.strOk (Str.ofString s) = true := by
  rw [Str.ofString_eq_toList]
  unfold PyData.strOk
  rw [← Array.all_toList, List.all_eq_true]
  intro c hc
  obtain ⟨z, _, rfl⟩ := List.mem_map.mp hc
  refine decide_eq_true ?_
  have h := z.valid
  have e : z.toNat = z.val.toNat := rfl
  rcases h with h | h
  · exact Nat.lt_trans (show z.toNat < 0xd800 from h) (by decide)
  · exact h.2
theorem strOk_app {a b : Str} (h1 : PyData.strOk a = true) (h2 : PyData.strOk b = true) : PyData.strOk (a ++ b) = true := by
  show (a.cps ++ b.cps).all _ = true
  rw [Array.all_append]
  rw [Bool.and_eq_true]
  exact ⟨h1, h2⟩
theorem strOk_join {sep : Str} (hs : PyData.strOk sep = true) : ∀ {ts : List Str}, (∀ t, t ∈ ts → PyData.strOk t = true) → PyData.strOk (Str.join sep ts) = true
  | [], _ => by show PyData.strOk Str.empty = true; decide +kernel
  | [x], h => h x (List.mem_cons_self ..)
  | x :: y :: r, h => by
    show PyData.strOk (x ++ sep ++ Str.join sep (y :: r)) = true
    exact strOk_app (strOk_app (h x (List.mem_cons_self ..)) hs) (strOk_join hs fun t ht => h t (List.mem_cons_of_mem _ ht))
theorem strOk_from : ∀ {ts : List Str} {k : Nat} {acc : Str}, PyData.strOk acc = true → (∀ t, t ∈ ts → PyData.strOk t = true) → PyData.strOk (textFrom k acc ts) = true
  | [], _, _, h, _ => h
  | t :: r, k, acc, h, ht => by
    refine strOk_from (ts := r) (k := k + 1) (acc := acc ++ (if k > 0 then ", " else "" : String) ++ t) (strOk_app (strOk_app h (strOk_of _)) (ht t (List.mem_cons_self ..))) fun x hx => ht x (List.mem_cons_of_mem _ hx)
theorem k_reprD {X : Cx} {K : PySem.W.Frag} (e : X.K = K) (hgd : X.A.guards = some []) (hu : X.A.units + 64 < cLine) : CallR X (.builtin "repr") (rReprD K) := by
  rw [← e]; exact call_reprD hgd hu
def SOk (d : PyData) : Prop := PyData.strOk d.shown = true
theorem shownAll_map : ∀ ds : List PyData, PyData.shownAll ds = ds.map PyData.shown
  | [] => rfl
  | d :: ds => by simp only [PyData.shownAll, List.map_cons, shownAll_map ds]
theorem SOk.int {i : Int} : SOk (.int i) := by unfold SOk; simp only [PyData.shown]; exact strOk_of _
theorem SOk.none : SOk .none := by unfold SOk; simp only [PyData.shown]; exact strOk_of _
theorem SOk.bool {b : Bool} : SOk (.bool b) := by unfold SOk; simp only [PyData.shown]; cases b <;> exact strOk_of _
theorem SOk.tup {ds : List PyData} (h : ∀ d, d ∈ ds → SOk d) : SOk (.tuple ds) := by
  unfold SOk
  simp only [PyData.shown]
  rw [shownAll_map]
  unfold tupleText
  refine strOk_app (strOk_app (strOk_of _) (strOk_join (strOk_of _) fun t ht => ?_)) (strOk_of _)
  obtain ⟨d, hd, rfl⟩ := List.mem_map.mp ht
  exact h d hd
theorem SOk.lst {ds : List PyData} (h : ∀ d, d ∈ ds → SOk d) : SOk (.list ds) := by
  unfold SOk
  simp only [PyData.shown]
  rw [shownAll_map]
  unfold listText
  refine strOk_app (strOk_from (strOk_of _) fun t ht => ?_) (strOk_of _)
  obtain ⟨d, hd, rfl⟩ := List.mem_map.mp ht
  exact h d hd
theorem SOk.ints {ns : List Int} : ∀ d, d ∈ ns.map PyData.int → SOk d := fun d hd => by
  obtain ⟨i, _, rfl⟩ := List.mem_map.mp hd
  exact .int
theorem SOk.dic1 {x : Str} {d : PyData} (hx : SOk (.str x)) (h : SOk d) : SOk (.dict [(.str x, d)]) := by
  unfold SOk at *
  simp only [PyData.shown, PyData.shownKv] at *
  unfold dictText
  exact strOk_app (strOk_app (strOk_of _) (strOk_join (strOk_of _) fun t ht => by
    rw [List.mem_singleton.mp ht]
    exact strOk_app (strOk_app hx (strOk_of _)) h)) (strOk_of _)
theorem Sh.str {x : Str} {k : Nat} (h : PyData.strOk x = true) : Sh k (.str x) := ⟨by simp only [PyData.canLay0]; exact h, by simp [PyData.depth]⟩
end MB

set_option maxHeartbeats 4000000
namespace MB
open PySem PySem.Spec PyProof.Rows L2
/-! methods called by keywords -/
def tMethK (C : Addr) (m : Str) (n : Nat) (sp : Sp) (gV : List V → List V → List V) (E : XK) (ta : TE) (tk : TA) : TE := fun σ H Q => ta σ H fun x H1 => ∃ a dx fs, x = .ref a ∧ H1 a = some (.ins C dx fs) ∧ fs.lookup m = none ∧ tk σ H1 fun zs H2 => zs.length = n ∧ sp (gV [x] zs) H2 Q E
section
variable {X : Cx} {CX : CXT} {k n : Nat} {C f : Addr} {fd : FuncData} {ps ks : List Str} {sp : Sp} {E : XK} {m : Str} {o : Expr} {apos : _} {pos : Pos} {kws : List Keyword} {ta : TE} {tk : TA} {g : List Value → List Value → List Value} {gV : List V → List V → List V}
theorem pe_methK0 {pl : Sem Bool} (he : PE X o ta) (c : Cls X.K C) (hm : Meth X.K C m f) (F : FnOk X.prog X.w X.K X.mg X.base CX k f fd ps sp) (hr : Room k X.A) (hb : KBn X.K fd ps 1 ks g gV) (hx : Passes CX X E) (hkw : PK X kws tk)
    (hall : (backToKw pos (keywordEach kws X.env)).all (·.1.isSome) = true := by rfl) (hks : (backToKw pos (keywordEach kws X.env)).filterMap (·.1) = ks := by rfl)
    (hpl : ((backTo pos (starEach [] X.env)).any (·.1) || (backToKw pos (keywordEach kws X.env)).any (·.1.isNone)) = false := by rfl)
    (ht : eval (.Call (.Attribute o m apos) [] kws pos) X.env = (do
      let ov ← eval o X.env
      standAt apos.atName
      let (f, first) ← holding [ov] (getMethod ov m pl)
      callWith pos f first (backTo pos (starEach [] X.env)) (backToKw pos (keywordEach kws X.env))) := by rfl) :
    PE X (.Call (.Attribute o m apos) [] kws pos) (tMethK C m ks.length sp gV E ta tk) := by
  refine ⟨fun pins s σ H Q I h => ?_⟩
  refine PySem.W.methodCall_KW (pl := pl) (thn (he.run pins s σ H _ I h) fun u s1 ⟨x, H1, I1, rx, a, dx, fs, ex, ea, l, q⟩ => ?_) ht
  subst ex
  obtain rfl : u = Value.ref a := rx
  refine getmeth_ok I1 ea c hm l ?_
  refine PySem.W.callWith_KW0 (first := [.ref a]) (h₀ := X.base) I.ok.mod.kin hm.kp hall ?_ hpl
  refine thn (hkw.run pos pins s1 σ H1 _ I1 q) fun ws s2 ⟨zs, H2, I2, rz, l2, q2⟩ => ⟨I2.kIn, ?_⟩
  rw [hks]
  exact run_fnN (us := [.ref a]) (vs := [.ref a]) F hr hb hx I2 (.cons rfl .nil) rz rfl l2 q2
end
theorem FunD.okN {P : Program} {w : World} {K : PySem.W.Frag} {mg : Str → Option Value} {base : Heap} {x qual : Str} {params : Arguments} {body : List Stmt} {scope : Scope} {dvs : List V} {kws : List (Str × V)} {f : Addr} {fd : FuncData} {N ps : List Str} {k : Nat} {sp : Sp} (F : FunD K x qual params body scope dvs kws f fd) (S : FnScope N ps scope) (len : ∀ vs H Q E, sp vs H Q E → vs.length = ps.length)
    (hbody : ∀ (cdv : Value) (A : Around) (outer : List Env) (s : Shared) (H : Hp) (vs : List V) (Q : VK) (E : XK), Room k (A.deeper (envOfC qual scope s.heap.objs.size f cdv)) → sp vs H Q E →
      ∃ t, PSs (cxOf CX0 P w K mg base N qual scope f cdv A outer s H E).nox body t ∧ t { nx := fun _ H' => Q .non H', rt := Q } (start N vs) H) : FnOk P w K mg base CX0 (k + 1) f fd ps sp :=
  F.ok S len fun cdv A outer s H vs Q E hr hsp => let ⟨t, h, q⟩ := hbody cdv A outer s H vs Q E hr hsp; ⟨t, h.nox, q⟩
/-- all positional, then the keywords, in their order -/
def gA {α : Type} (us ws : List α) : List α := us ++ ws
theorem kbA {K : PySem.W.Frag} {x qual : Str} {params : Arguments} {body : List Stmt} {scope : Scope} {dvs : List V} {kws : List (Str × V)} {f : Addr} {fd : FuncData} {ps ks : List Str} (F : FunD K x qual params body scope dvs kws f fd) (n : Nat) (hd : dvs ≠ [])
    (h : ∀ (T : Addr) (kV doc pm : Value) (an : Option Addr) (cdv ct : Value) (us its ws : List Value), us.length = n → its.length = dvs.length → ws.length = ks.length →
      ∃ k, bindArgs (PySem.W.fnOf x qual params body scope (.ref T) kV doc pm an cdv ct) ⟨us, ks.zip ws⟩ = seqItems? (.ref T) >>= k ∧ k (some its.toArray) = pure (ps.zip (us ++ ws))) : KBn K fd ps n ks gA gA := by
  obtain ⟨oc, od, dV, kV, doc, pm, an, cdv, ct, osl, rfl, lk, hcd, hD, hK⟩ := F.ex
  rcases hD with ⟨e, _⟩ | ⟨_, T, o, its, m, rfl, lT, oT, rT⟩
  · exact absurd e hd
  · refine ⟨fun s us ws X l1 l2 => ?_, fun r1 r2 => r1.append r2⟩
    obtain ⟨k, e1, e2⟩ := h T kV doc pm an cdv ct us its ws l1 rT.length.symm l2
    refine BindsTo.of_looks fun M => ?_
    rw [e1]
    exact looks_items X lT oT (.of_pure e2)
end MB

set_option maxHeartbeats 4000000
namespace MB
open PySem PySem.Spec PyProof.Rows L2
/-! ### a store of the program, as it stands in the heap -/
/-- where its parts stand: itself, merges, batches, history, buffer; the dicts of the batches -/
structure St where
  p : Addr
  m : Addr
  b : Addr
  h : Addr
  d : Addr
  ds : List Addr
def St.own (s : St) : List Addr := [s.p, s.m, s.b, s.h, s.d]
def fldS (r m b d h : Addr) (n : Int) : List (Str × V) := [("rule", .ref r), ("merges", .ref m), ("batches", .ref b), ("buffer", .ref d), ("history", .ref h), ("searched", .int n)]
theorem fe_12 : ¬ (("rule" : Str) = "merges") := by decide +kernel
theorem fe_13 : ¬ (("rule" : Str) = "batches") := by decide +kernel
theorem fe_14 : ¬ (("rule" : Str) = "buffer") := by decide +kernel
theorem fe_15 : ¬ (("rule" : Str) = "history") := by decide +kernel
theorem fe_16 : ¬ (("rule" : Str) = "searched") := by decide +kernel
theorem fe_23 : ¬ (("merges" : Str) = "batches") := by decide +kernel
theorem fe_24 : ¬ (("merges" : Str) = "buffer") := by decide +kernel
theorem fe_25 : ¬ (("merges" : Str) = "history") := by decide +kernel
theorem fe_26 : ¬ (("merges" : Str) = "searched") := by decide +kernel
theorem fe_34 : ¬ (("batches" : Str) = "buffer") := by decide +kernel
theorem fe_35 : ¬ (("batches" : Str) = "history") := by decide +kernel
theorem fe_36 : ¬ (("batches" : Str) = "searched") := by decide +kernel
theorem fe_45 : ¬ (("buffer" : Str) = "history") := by decide +kernel
theorem fe_46 : ¬ (("buffer" : Str) = "searched") := by decide +kernel
theorem fe_56 : ¬ (("history" : Str) = "searched") := by decide +kernel
theorem put_nil {f : Str} {v : V} : putF f v [] = [(f, v)] := rfl
theorem put_eq {f : Str} {v w : V} {l : List (Str × V)} : putF f v ((f, w) :: l) = (f, v) :: l := by
  show (if f = f then _ else _) = _
  rw [if_pos rfl]
theorem put_ne {f g : Str} {v w : V} {l : List (Str × V)} (h : ¬ g = f) : putF f v ((g, w) :: l) = (g, w) :: putF f v l := by
  show (if g = f then _ else _) = _
  rw [if_neg h]
theorem fld_mk (r m b d h : Addr) (n : Int) : putF "searched" (.int n) (putF "history" (.ref h) (putF "buffer" (.ref d) (putF "batches" (.ref b) (putF "merges" (.ref m) (putF "rule" (.ref r) []))))) = fldS r m b d h n := by
  rw [put_nil, put_ne fe_12, put_nil, put_ne fe_13, put_ne fe_23, put_nil, put_ne fe_14, put_ne fe_24, put_ne fe_34, put_nil, put_ne fe_15, put_ne fe_25, put_ne fe_35, put_ne fe_45, put_nil,
    put_ne fe_16, put_ne fe_26, put_ne fe_36, put_ne fe_46, put_ne fe_56, put_nil]
  rfl
def pf1 (r : Addr) : List (Str × V) := [("rule", .ref r)]
def pf2 (r m : Addr) : List (Str × V) := [("rule", .ref r), ("merges", .ref m)]
def pf3 (r m b : Addr) : List (Str × V) := [("rule", .ref r), ("merges", .ref m), ("batches", .ref b)]
def pf4 (r m b d : Addr) : List (Str × V) := [("rule", .ref r), ("merges", .ref m), ("batches", .ref b), ("buffer", .ref d)]
def pf5 (r m b d h : Addr) : List (Str × V) := [("rule", .ref r), ("merges", .ref m), ("batches", .ref b), ("buffer", .ref d), ("history", .ref h)]
theorem pp1 (r : Addr) : putF "rule" (.ref r) [] = pf1 r := rfl
theorem pp2 (r m : Addr) : putF "merges" (.ref m) (pf1 r) = pf2 r m := by unfold pf1; rw [put_ne fe_12, put_nil]; rfl
theorem pp3 (r m b : Addr) : putF "batches" (.ref b) (pf2 r m) = pf3 r m b := by unfold pf2; rw [put_ne fe_13, put_ne fe_23, put_nil]; rfl
theorem pp4 (r m b d : Addr) : putF "buffer" (.ref d) (pf3 r m b) = pf4 r m b d := by unfold pf3; rw [put_ne fe_14, put_ne fe_24, put_ne fe_34, put_nil]; rfl
theorem pp5 (r m b d h : Addr) : putF "history" (.ref h) (pf4 r m b d) = pf5 r m b d h := by unfold pf4; rw [put_ne fe_15, put_ne fe_25, put_ne fe_35, put_ne fe_45, put_nil]; rfl
theorem pp6 (r m b d h : Addr) (n : Int) : putF "searched" (.int n) (pf5 r m b d h) = fldS r m b d h n := by unfold pf5; rw [put_ne fe_16, put_ne fe_26, put_ne fe_36, put_ne fe_46, put_ne fe_56, put_nil]; rfl
theorem fld_len (r m b d h : Addr) (n : Int) : (fldS r m b d h n).length = 6 := rfl
theorem fld_buffer (r m b d d' h : Addr) (n : Int) : putF "buffer" (.ref d') (fldS r m b d h n) = fldS r m b d' h n := by
  unfold fldS; rw [put_ne fe_14, put_ne fe_24, put_ne fe_34, put_eq]
theorem fld_searched (r m b d h : Addr) (n n' : Int) : putF "searched" (.int n') (fldS r m b d h n) = fldS r m b d h n' := by
  unfold fldS; rw [put_ne fe_16, put_ne fe_26, put_ne fe_36, put_ne fe_46, put_ne fe_56, put_eq]
theorem lk_hit {f : Str} {v : V} {l : List (Str × V)} : ((f, v) :: l).lookup f = some v := by simp [List.lookup]
theorem lk_miss {f g : Str} {v : V} {l : List (Str × V)} (h : ¬ g = f) : ((g, v) :: l).lookup f = l.lookup f := by
  have : (f == g) = false := by simpa using fun e => h e.symm
  simp [List.lookup, this]
theorem lk_rule (r m b d h : Addr) (n : Int) : (fldS r m b d h n).lookup ("rule" : Str) = some (.ref r) := lk_hit
theorem lk_merges (r m b d h : Addr) (n : Int) : (fldS r m b d h n).lookup ("merges" : Str) = some (.ref m) := by unfold fldS; rw [lk_miss fe_12]; exact lk_hit
theorem lk_batches (r m b d h : Addr) (n : Int) : (fldS r m b d h n).lookup ("batches" : Str) = some (.ref b) := by unfold fldS; rw [lk_miss fe_13, lk_miss fe_23]; exact lk_hit
theorem lk_buffer (r m b d h : Addr) (n : Int) : (fldS r m b d h n).lookup ("buffer" : Str) = some (.ref d) := by unfold fldS; rw [lk_miss fe_14, lk_miss fe_24, lk_miss fe_34]; exact lk_hit
theorem lk_history (r m b d h : Addr) (n : Int) : (fldS r m b d h n).lookup ("history" : Str) = some (.ref h) := by unfold fldS; rw [lk_miss fe_15, lk_miss fe_25, lk_miss fe_35, lk_miss fe_45]; exact lk_hit
theorem lk_searched (r m b d h : Addr) (n : Int) : (fldS r m b d h n).lookup ("searched" : Str) = some (.int n) := by unfold fldS; rw [lk_miss fe_16, lk_miss fe_26, lk_miss fe_36, lk_miss fe_46, lk_miss fe_56]; exact lk_hit
/-- a name that is no field -/
theorem lk_no (r m b d h : Addr) (n : Int) {f : Str} (e : (["rule", "merges", "batches", "buffer", "history", "searched"] : List Str).contains f = false) : (fldS r m b d h n).lookup f = none := by
  simp only [List.contains_cons, List.contains_nil, Bool.or_false, Bool.or_eq_false_iff] at e
  obtain ⟨h1, h2, h3, h4, h5, h6⟩ := e
  unfold fldS
  simp [List.lookup, h1, h2, h3, h4, h5, h6]
/-- all but these stay -/
def ButL (S : List Addr) (H H' : Hp) : Prop := ∀ c o, c ∉ S → H c = some o → H' c = some o
theorem ButL.refl {S : List Addr} {H : Hp} : ButL S H H := fun _ _ _ h => h
theorem ButL.of {S : List Addr} {H H' : Hp} (s : Same H H') : ButL S H H' := fun c o _ h => s c o h
theorem ButL.trans {S : List Addr} {H H1 H2 : Hp} (a : ButL S H H1) (b : ButL S H1 H2) : ButL S H H2 := fun c o n h => b c o n (a c o n h)
theorem ButL.mono {S S' : List Addr} {H H' : Hp} (a : ButL S H H') (h : ∀ c, c ∈ S → c ∈ S') : ButL S' H H' := fun c o n e => a c o (fun z => n (h c z)) e
theorem ButL.upd {S : List Addr} {H : Hp} {a : Addr} {o : HO} (h : a ∈ S) : ButL S H (L2.upd H a o) := fun c u n e => by
  rw [upd_ne (fun z => n (by rw [z]; exact h))]; exact e
/-- what is new stays free for what stood before -/
theorem ButL.drop {S : List Addr} {x : Addr} {H H1 H' : Hp} (a : ButL (x :: S) H1 H') (b : ButL S H H1) (n : H x = none) : ButL S H H' := fun c o nc e =>
  a c o (fun z => (List.mem_cons.mp z).elim (fun z => by rw [z, n] at e; cases e) nc) (b c o nc e)
/-- a store with a schedule t, entries L flushed, entries kvs in the buffer -/
structure StAt (K : PySem.W.Frag) (C : Addr) (H : Hp) (s : St) (pol : List V) (t : T) (L : List (List (Key × V))) (kvs : List (Key × V)) (hs : List V) (n : Int) : Prop where
  ex : ∃ dx r, H s.p = some (.ins C dx (fldS r s.m s.b s.d s.h n)) ∧ SqT K H r pol
  hm : H s.m = some (.lst (vi t.sch))
  hb : H s.b = some (.lst (s.ds.map V.ref))
  hh : H s.h = some (.lst hs)
  hd : H s.d = some (.dK kvs)
  mb : s.m ≠ s.b
  mh : s.m ≠ s.h
  bh : s.b ≠ s.h
  dn : s.d ∉ s.ds
  l1 : s.ds.length = L.length
  l2 : L.length = t.size
  bat : ∀ (i : Nat) (di : Addr), s.ds[i]? = some di → ∃ kv : List (Key × V), L[i]? = some kv ∧ H di = some (.dK kv)
section
variable {K : PySem.W.Frag} {C : Addr} {H H' : Hp} {s : St} {pol : List V} {t : T} {L : List (List (Key × V))} {kvs : List (Key × V)} {hs : List V} {n : Int}
/-- all addresses of a store -/
def St.all (s : St) : List Addr := s.own ++ s.ds
theorem StAt.keepL {S : List Addr} (a : StAt K C H s pol t L kvs hs n) (b : ButL S H H') (ds : ∀ x, x ∈ s.all → x ∉ S) (kp : Keep K H H') : StAt K C H' s pol t L kvs hs n := by
  obtain ⟨dx, r, e1, e2⟩ := a.ex
  have m1 : s.p ∉ S := ds _ (by simp [St.all, St.own])
  have m2 : s.m ∉ S := ds _ (by simp [St.all, St.own])
  have m3 : s.b ∉ S := ds _ (by simp [St.all, St.own])
  have m4 : s.h ∉ S := ds _ (by simp [St.all, St.own])
  have m5 : s.d ∉ S := ds _ (by simp [St.all, St.own])
  refine ⟨⟨dx, r, b _ _ m1 e1, kp _ _ e2⟩, b _ _ m2 a.hm, b _ _ m3 a.hb, b _ _ m4 a.hh, b _ _ m5 a.hd, a.mb, a.mh, a.bh, a.dn, a.l1, a.l2, fun i di h => ?_⟩
  obtain ⟨kv, g1, g2⟩ := a.bat i di h
  exact ⟨kv, g1, b _ _ (ds _ (by simp [St.all, List.mem_of_getElem? h])) g2⟩
theorem StAt.same (a : StAt K C H s pol t L kvs hs n) (b : Same H H') : StAt K C H' s pol t L kvs hs n :=
  a.keepL (S := []) (.of b) (fun _ _ h => nomatch h) (Keep.of b)
/-- no tuple stands at a place of a store -/
theorem StAt.keep (a : StAt K C H s pol t L kvs hs n) (b : ButL s.own H H') : Keep K H H' := fun c xs h => by
  obtain ⟨dx, r, e1, e2⟩ := a.ex
  have key : ∀ u, H c = some u → (∀ (Cc dd : Addr) fs, u ≠ .ins Cc dd fs) → (∀ l, u ≠ .lst l) → (∀ l, u ≠ .dK l) → H' c = some u := fun u hu n1 n2 n3 => b c u (fun hc => by
    simp only [St.own, List.mem_cons, List.not_mem_nil, or_false] at hc
    rcases hc with rfl | rfl | rfl | rfl | rfl
    · rw [e1] at hu; exact n1 _ _ _ (Option.some.inj hu).symm
    · rw [a.hm] at hu; exact n2 _ (Option.some.inj hu).symm
    · rw [a.hb] at hu; exact n2 _ (Option.some.inj hu).symm
    · rw [a.hh] at hu; exact n2 _ (Option.some.inj hu).symm
    · rw [a.hd] at hu; exact n3 _ (Option.some.inj hu).symm) hu
  rcases h with (h | ⟨o, h⟩) | h
  · exact .inl (.inl (key _ h (fun _ _ _ z => nomatch z) (fun _ z => nomatch z) (fun _ z => nomatch z)))
  · exact .inl (.inr ⟨o, key _ h (fun _ _ _ z => nomatch z) (fun _ z => nomatch z) (fun _ z => nomatch z)⟩)
  · exact .inr h
end
end MB

set_option maxHeartbeats 4000000
namespace MB
open PySem PySem.Spec PyProof.Rows L2
def topS (i : Nat) : Stmt := PySem.Challenge.pw_mergebudget_k95_whole_time_reversed.main.body.getD i (.Pass ⟨0, 0, 0, 0⟩)
abbrev s_is_int : Stmt := topS 18
abbrev N_is_int : List Str := ["value"]
theorem sc_is_int : FnScope N_is_int ["value"] (defScope s_is_int) := ⟨rfl, rfl, rfl, by decide +kernel, rfl, by decide +kernel, by decide +kernel⟩
abbrev s_is_count : Stmt := topS 19
abbrev N_is_count : List Str := ["value"]
theorem sc_is_count : FnScope N_is_count ["value"] (defScope s_is_count) := ⟨rfl, rfl, rfl, by decide +kernel, rfl, by decide +kernel, by decide +kernel⟩
abbrev s_is_count_up_to : Stmt := topS 20
abbrev N_is_count_up_to : List Str := ["value", "most"]
theorem sc_is_count_up_to : FnScope N_is_count_up_to ["value", "most"] (defScope s_is_count_up_to) := ⟨rfl, rfl, rfl, by decide +kernel, rfl, by decide +kernel, by decide +kernel⟩
abbrev s_are_loads : Stmt := topS 22
abbrev N_are_loads : List Str := ["value", "fewest", "most", "load"]
theorem sc_are_loads : FnScope N_are_loads ["value", "fewest", "most"] (defScope s_are_loads) := ⟨rfl, rfl, rfl, by decide +kernel, rfl, by decide +kernel, by decide +kernel⟩
abbrev s_check_sizes : Stmt := topS 23
abbrev N_check_sizes : List Str := ["sizes", "fewest", "most"]
theorem sc_check_sizes : FnScope N_check_sizes ["sizes", "fewest", "most"] (defScope s_check_sizes) := ⟨rfl, rfl, rfl, by decide +kernel, rfl, by decide +kernel, by decide +kernel⟩
abbrev s_is_schedule : Stmt := topS 26
abbrev N_is_schedule : List Str := ["value", "runs", "merge"]
theorem sc_is_schedule : FnScope N_is_schedule ["value"] (defScope s_is_schedule) := ⟨rfl, rfl, rfl, by decide +kernel, rfl, by decide +kernel, by decide +kernel⟩
abbrev s_stacks : Stmt := topS 27
abbrev N_stacks : List Str := ["schedule", "stack", "result", "flush", "merge"]
theorem sc_stacks : FnScope N_stacks ["schedule"] (defScope s_stacks) := ⟨rfl, rfl, rfl, by decide +kernel, rfl, by decide +kernel, by decide +kernel⟩
abbrev s_stack_after : Stmt := topS 28
abbrev N_stack_after : List Str := ["stack", "flush", "merge", "kept", "start"]
theorem sc_stack_after : FnScope N_stack_after ["stack", "flush", "merge"] (defScope s_stack_after) := ⟨rfl, rfl, rfl, by decide +kernel, rfl, by decide +kernel, by decide +kernel⟩
abbrev s_writes : Stmt := topS 29
abbrev N_writes : List Str := ["schedule", "history", "counts", "stack", "start", "stop", "flush"]
theorem sc_writes : FnScope N_writes ["schedule"] (defScope s_writes) := ⟨rfl, rfl, rfl, by decide +kernel, rfl, by decide +kernel, by decide +kernel⟩
abbrev s_run_counts : Stmt := topS 30
abbrev N_run_counts : List Str := ["schedule", "stack"]
theorem sc_run_counts : FnScope N_run_counts ["schedule"] (defScope s_run_counts) := ⟨rfl, rfl, rfl, by decide +kernel, rfl, by decide +kernel, by decide +kernel⟩
abbrev s_is_tree : Stmt := topS 33
abbrev N_is_tree : List Str := ["value", "parent"]
theorem sc_is_tree : FnScope N_is_tree ["value"] (defScope s_is_tree) := ⟨rfl, rfl, rfl, by decide +kernel, rfl, by decide +kernel, by decide +kernel⟩
abbrev s_is_numbered_in_order : Stmt := topS 34
abbrev N_is_numbered_in_order : List Str := ["parents", "subtrees", "start", "stop", "parent", "roots", "root", "node"]
theorem sc_is_numbered_in_order : FnScope N_is_numbered_in_order ["parents"] (defScope s_is_numbered_in_order) := ⟨rfl, rfl, rfl, by decide +kernel, rfl, by decide +kernel, by decide +kernel⟩
abbrev s_tree_of : Stmt := topS 35
abbrev N_tree_of : List Str := ["schedule", "counts", "parents", "intervals", "start", "stop", "runs", "parent", "root", "flush"]
theorem sc_tree_of : FnScope N_tree_of ["schedule"] (defScope s_tree_of) := ⟨rfl, rfl, rfl, by decide +kernel, rfl, by decide +kernel, by decide +kernel⟩
abbrev s_schedule_of : Stmt := topS 36
abbrev N_schedule_of : List Str := ["tree", "merges", "runs_before", "left", "right", "runs_after"]
theorem sc_schedule_of : FnScope N_schedule_of ["tree"] (defScope s_schedule_of) := ⟨rfl, rfl, rfl, by decide +kernel, rfl, by decide +kernel, by decide +kernel⟩
abbrev s_edges : Stmt := topS 37
abbrev N_edges : List Str := ["tree", "node"]
theorem sc_edges : FnScope N_edges ["tree"] (defScope s_edges) := ⟨rfl, rfl, rfl, by decide +kernel, rfl, by decide +kernel, by decide +kernel⟩
abbrev s_edges_above : Stmt := topS 38
abbrev N_edges_above : List Str := ["tree", "node", "left", "right", "child"]
theorem sc_edges_above : FnScope N_edges_above ["tree", "node"] (defScope s_edges_above) := ⟨rfl, rfl, rfl, by decide +kernel, rfl, by decide +kernel, by decide +kernel⟩
abbrev s_mirror : Stmt := topS 39
abbrev N_mirror : List Str := ["schedule", "tree", "last", "parent"]
theorem sc_mirror : FnScope N_mirror ["schedule"] (defScope s_mirror) := ⟨rfl, rfl, rfl, by decide +kernel, rfl, by decide +kernel, by decide +kernel⟩
abbrev s_mirrored_node : Stmt := topS 40
abbrev N_mirrored_node : List Str := ["node", "last"]
theorem sc_mirrored_node : FnScope N_mirrored_node ["node", "last"] (defScope s_mirrored_node) := ⟨rfl, rfl, rfl, by decide +kernel, rfl, by decide +kernel, by decide +kernel⟩
abbrev s_write_work : Stmt := topS 56
abbrev N_write_work : List Str := ["schedule", "sizes", "counts"]
theorem sc_write_work : FnScope N_write_work ["schedule", "sizes"] (defScope s_write_work) := ⟨rfl, rfl, rfl, by decide +kernel, rfl, by decide +kernel, by decide +kernel⟩
abbrev s_weighted : Stmt := topS 57
abbrev N_weighted : List Str := ["loads", "counts", "load", "count"]
theorem sc_weighted : FnScope N_weighted ["loads", "counts"] (defScope s_weighted) := ⟨rfl, rfl, rfl, by decide +kernel, rfl, by decide +kernel, by decide +kernel⟩
abbrev s_is_key : Stmt := topS 61
abbrev N_is_key : List Str := ["value", "letter"]
theorem sc_is_key : FnScope N_is_key ["value"] (defScope s_is_key) := ⟨rfl, rfl, rfl, by decide +kernel, rfl, by decide +kernel, by decide +kernel⟩
abbrev s_check_key : Stmt := topS 62
abbrev N_check_key : List Str := ["key"]
theorem sc_check_key : FnScope N_check_key ["key"] (defScope s_check_key) := ⟨rfl, rfl, rfl, by decide +kernel, rfl, by decide +kernel, by decide +kernel⟩
abbrev s_is_policy : Stmt := topS 63
abbrev N_is_policy : List Str := ["value", "budget"]
theorem sc_is_policy : FnScope N_is_policy ["value"] (defScope s_is_policy) := ⟨rfl, rfl, rfl, by decide +kernel, rfl, by decide +kernel, by decide +kernel⟩
abbrev s_Store___init__ : Stmt := inClass (topS 65) 0
abbrev N_Store___init__ : List Str := ["self", "policy"]
theorem sc_Store___init__ : FnScope N_Store___init__ ["self", "policy"] (defScope s_Store___init__) := ⟨rfl, rfl, rfl, by decide +kernel, rfl, by decide +kernel, by decide +kernel⟩
abbrev s_Store_put : Stmt := inClass (topS 65) 1
abbrev N_Store_put : List Str := ["self", "key", "value"]
theorem sc_Store_put : FnScope N_Store_put ["self", "key", "value"] (defScope s_Store_put) := ⟨rfl, rfl, rfl, by decide +kernel, rfl, by decide +kernel, by decide +kernel⟩
abbrev s_Store_write : Stmt := inClass (topS 65) 3
abbrev N_Store_write : List Str := ["self", "key", "value", "replaced"]
theorem sc_Store_write : FnScope N_Store_write ["self", "key", "value"] (defScope s_Store_write) := ⟨rfl, rfl, rfl, by decide +kernel, rfl, by decide +kernel, by decide +kernel⟩
abbrev s_Store_flush : Stmt := inClass (topS 65) 4
abbrev N_Store_flush : List Str := ["self", "merge", "chosen"]
theorem sc_Store_flush : FnScope N_Store_flush ["self", "merge"] (defScope s_Store_flush) := ⟨rfl, rfl, rfl, by decide +kernel, rfl, by decide +kernel, by decide +kernel⟩
abbrev s_Store_check_merge : Stmt := inClass (topS 65) 5
abbrev N_Store_check_merge : List Str := ["self", "merge"]
theorem sc_Store_check_merge : FnScope N_Store_check_merge ["self", "merge"] (defScope s_Store_check_merge) := ⟨rfl, rfl, rfl, by decide +kernel, rfl, by decide +kernel, by decide +kernel⟩
abbrev s_Store_chosen_merge : Stmt := inClass (topS 65) 6
abbrev N_Store_chosen_merge : List Str := ["self", "merge"]
theorem sc_Store_chosen_merge : FnScope N_Store_chosen_merge ["self", "merge"] (defScope s_Store_chosen_merge) := ⟨rfl, rfl, rfl, by decide +kernel, rfl, by decide +kernel, by decide +kernel⟩
abbrev s_Store_read : Stmt := inClass (topS 65) 7
abbrev N_Store_read : List Str := ["self", "key", "moment", "flushes", "runs", "start", "stop", "flush"]
theorem sc_Store_read : FnScope N_Store_read ["self", "key", "moment"] (defScope s_Store_read) := ⟨rfl, rfl, rfl, by decide +kernel, rfl, by decide +kernel, by decide +kernel⟩
abbrev s_Store_flushes_until : Stmt := inClass (topS 65) 8
abbrev N_Store_flushes_until : List Str := ["self", "moment"]
theorem sc_Store_flushes_until : FnScope N_Store_flushes_until ["self", "moment"] (defScope s_Store_flushes_until) := ⟨rfl, rfl, rfl, by decide +kernel, rfl, by decide +kernel, by decide +kernel⟩
abbrev s_Store_check_moment : Stmt := inClass (topS 65) 9
abbrev N_Store_check_moment : List Str := ["self", "moment"]
theorem sc_Store_check_moment : FnScope N_Store_check_moment ["self", "moment"] (defScope s_Store_check_moment) := ⟨rfl, rfl, rfl, by decide +kernel, rfl, by decide +kernel, by decide +kernel⟩
abbrev s_Store_visited : Stmt := inClass (topS 65) 10
abbrev N_Store_visited : List Str := ["self"]
theorem sc_Store_visited : FnScope N_Store_visited ["self"] (defScope s_Store_visited) := ⟨rfl, rfl, rfl, by decide +kernel, rfl, by decide +kernel, by decide +kernel⟩
abbrev s_Store_stack : Stmt := inClass (topS 65) 12
abbrev N_Store_stack : List Str := ["self", "history"]
theorem sc_Store_stack : FnScope N_Store_stack ["self"] (defScope s_Store_stack) := ⟨rfl, rfl, rfl, by decide +kernel, rfl, by decide +kernel, by decide +kernel⟩
abbrev s_Store_schedule : Stmt := inClass (topS 65) 14
abbrev N_Store_schedule : List Str := ["self"]
theorem sc_Store_schedule : FnScope N_Store_schedule ["self"] (defScope s_Store_schedule) := ⟨rfl, rfl, rfl, by decide +kernel, rfl, by decide +kernel, by decide +kernel⟩
abbrev s_Store_sizes : Stmt := inClass (topS 65) 15
abbrev N_Store_sizes : List Str := ["self", "batch"]
theorem sc_Store_sizes : FnScope N_Store_sizes ["self"] (defScope s_Store_sizes) := ⟨rfl, rfl, rfl, by decide +kernel, rfl, by decide +kernel, by decide +kernel⟩
abbrev s_Store_written : Stmt := inClass (topS 65) 16
abbrev N_Store_written : List Str := ["self"]
theorem sc_Store_written : FnScope N_Store_written ["self"] (defScope s_Store_written) := ⟨rfl, rfl, rfl, by decide +kernel, rfl, by decide +kernel, by decide +kernel⟩
abbrev s_L_start_draws : Stmt := topS 67
abbrev N_L_start_draws : List Str := ["_law_script", "_law_nth", "_law_cell", "_law_great"]
theorem sc_L_start_draws : FnScope N_L_start_draws ["_law_script", "_law_nth"] (defScope s_L_start_draws) := ⟨rfl, rfl, rfl, by decide +kernel, rfl, by decide +kernel, by decide +kernel⟩
abbrev s_L_next : Stmt := topS 68
abbrev N_L_next : List Str := ["_law_deal", "_law_upto", "_law_digit", "_law_primes", "_law_prime", "_law_drawn"]
theorem sc_L_next : FnScope N_L_next ["_law_deal", "_law_upto"] (defScope s_L_next) := ⟨rfl, rfl, rfl, by decide +kernel, rfl, by decide +kernel, by decide +kernel⟩
abbrev s_L_pick : Stmt := topS 69
abbrev N_L_pick : List Str := ["_law_deal", "_law_some"]
theorem sc_L_pick : FnScope N_L_pick ["_law_deal", "_law_some"] (defScope s_L_pick) := ⟨rfl, rfl, rfl, by decide +kernel, rfl, by decide +kernel, by decide +kernel⟩
abbrev s_L_sized : Stmt := topS 70
abbrev N_L_sized : List Str := ["_law_store", "_law_size", "_law_fold", "_law_key"]
theorem sc_L_sized : FnScope N_L_sized ["_law_store", "_law_size", "_law_fold"] (defScope s_L_sized) := ⟨rfl, rfl, rfl, by decide +kernel, rfl, by decide +kernel, by decide +kernel⟩
abbrev s_L_both_works : Stmt := topS 71
abbrev N_L_both_works : List Str := ["_law_plan", "_law_sizes_of", "_law_reads_of", "_law_store", "_law_fold", "_law_size", "_law_often", "_law_turn"]
theorem sc_L_both_works : FnScope N_L_both_works ["_law_plan", "_law_sizes_of", "_law_reads_of"] (defScope s_L_both_works) := ⟨rfl, rfl, rfl, by decide +kernel, rfl, by decide +kernel, by decide +kernel⟩
abbrev s_L_some_folds : Stmt := topS 72
abbrev N_L_some_folds : List Str := ["_law_deal", "_law_size", "_law_found", "_law_width", "_law_turn"]
theorem sc_L_some_folds : FnScope N_L_some_folds ["_law_deal", "_law_size"] (defScope s_L_some_folds) := ⟨rfl, rfl, rfl, by decide +kernel, rfl, by decide +kernel, by decide +kernel⟩
abbrev s_L_right : Stmt := topS 73
abbrev N_L_right : List Str := ["_law_deal", "_law_size", "_law_plan", "_law_sizes_of", "_law_reads_of", "_law_turned", "_law_first", "_law_second", "_law_here", "_law_there", "_law_k", "_law_pair"]
theorem sc_L_right : FnScope N_L_right ["_law_deal"] (defScope s_L_right) := ⟨rfl, rfl, rfl, by decide +kernel, rfl, by decide +kernel, by decide +kernel⟩
abbrev s_law : Stmt := topS 74
abbrev N_law : List Str := ["_law_script", "_law_nth", "_law_deal", "_law_turn"]
theorem sc_law : FnScope N_law ["_law_script"] (defScope s_law) := ⟨rfl, rfl, rfl, by decide +kernel, rfl, by decide +kernel, by decide +kernel⟩
structure Tx (K : PySem.W.Frag) (mg : Str → Option Value) where
  C_Store : Addr
  gc_Store : mg "Store" = some (.ref C_Store)
  cl_Store : Cls K C_Store
  a_is_int : Addr
  fd_is_int : FuncData
  f_is_int : Fun K "is_int" "is_int" s_is_int a_is_int fd_is_int
  g_is_int : mg "is_int" = some (.ref a_is_int)
  bd_is_int : Binds K fd_is_int ["value"] []
  a_is_count : Addr
  fd_is_count : FuncData
  f_is_count : Fun K "is_count" "is_count" s_is_count a_is_count fd_is_count
  g_is_count : mg "is_count" = some (.ref a_is_count)
  bd_is_count : Binds K fd_is_count ["value"] []
  a_is_count_up_to : Addr
  fd_is_count_up_to : FuncData
  f_is_count_up_to : Fun K "is_count_up_to" "is_count_up_to" s_is_count_up_to a_is_count_up_to fd_is_count_up_to
  g_is_count_up_to : mg "is_count_up_to" = some (.ref a_is_count_up_to)
  bd_is_count_up_to : Binds K fd_is_count_up_to ["value", "most"] []
  a_are_loads : Addr
  fd_are_loads : FuncData
  f_are_loads : Fun K "are_loads" "are_loads" s_are_loads a_are_loads fd_are_loads
  g_are_loads : mg "are_loads" = some (.ref a_are_loads)
  bd_are_loads : Binds K fd_are_loads ["value", "fewest", "most"] []
  a_check_sizes : Addr
  fd_check_sizes : FuncData
  f_check_sizes : Fun K "check_sizes" "check_sizes" s_check_sizes a_check_sizes fd_check_sizes
  g_check_sizes : mg "check_sizes" = some (.ref a_check_sizes)
  bd_check_sizes : Binds K fd_check_sizes ["sizes", "fewest", "most"] []
  a_is_schedule : Addr
  fd_is_schedule : FuncData
  f_is_schedule : Fun K "is_schedule" "is_schedule" s_is_schedule a_is_schedule fd_is_schedule
  g_is_schedule : mg "is_schedule" = some (.ref a_is_schedule)
  bd_is_schedule : Binds K fd_is_schedule ["value"] []
  a_stacks : Addr
  fd_stacks : FuncData
  f_stacks : Fun K "stacks" "stacks" s_stacks a_stacks fd_stacks
  g_stacks : mg "stacks" = some (.ref a_stacks)
  bd_stacks : Binds K fd_stacks ["schedule"] []
  a_stack_after : Addr
  fd_stack_after : FuncData
  f_stack_after : Fun K "stack_after" "stack_after" s_stack_after a_stack_after fd_stack_after
  g_stack_after : mg "stack_after" = some (.ref a_stack_after)
  bd_stack_after : Binds K fd_stack_after ["stack", "flush", "merge"] []
  a_writes : Addr
  fd_writes : FuncData
  f_writes : Fun K "writes" "writes" s_writes a_writes fd_writes
  g_writes : mg "writes" = some (.ref a_writes)
  bd_writes : Binds K fd_writes ["schedule"] []
  a_run_counts : Addr
  fd_run_counts : FuncData
  f_run_counts : Fun K "run_counts" "run_counts" s_run_counts a_run_counts fd_run_counts
  g_run_counts : mg "run_counts" = some (.ref a_run_counts)
  bd_run_counts : Binds K fd_run_counts ["schedule"] []
  a_is_tree : Addr
  fd_is_tree : FuncData
  f_is_tree : Fun K "is_tree" "is_tree" s_is_tree a_is_tree fd_is_tree
  g_is_tree : mg "is_tree" = some (.ref a_is_tree)
  bd_is_tree : Binds K fd_is_tree ["value"] []
  a_is_numbered_in_order : Addr
  fd_is_numbered_in_order : FuncData
  f_is_numbered_in_order : Fun K "is_numbered_in_order" "is_numbered_in_order" s_is_numbered_in_order a_is_numbered_in_order fd_is_numbered_in_order
  g_is_numbered_in_order : mg "is_numbered_in_order" = some (.ref a_is_numbered_in_order)
  bd_is_numbered_in_order : Binds K fd_is_numbered_in_order ["parents"] []
  a_tree_of : Addr
  fd_tree_of : FuncData
  f_tree_of : Fun K "tree_of" "tree_of" s_tree_of a_tree_of fd_tree_of
  g_tree_of : mg "tree_of" = some (.ref a_tree_of)
  bd_tree_of : Binds K fd_tree_of ["schedule"] []
  a_schedule_of : Addr
  fd_schedule_of : FuncData
  f_schedule_of : Fun K "schedule_of" "schedule_of" s_schedule_of a_schedule_of fd_schedule_of
  g_schedule_of : mg "schedule_of" = some (.ref a_schedule_of)
  bd_schedule_of : Binds K fd_schedule_of ["tree"] []
  a_edges : Addr
  fd_edges : FuncData
  f_edges : Fun K "edges" "edges" s_edges a_edges fd_edges
  g_edges : mg "edges" = some (.ref a_edges)
  bd_edges : Binds K fd_edges ["tree"] []
  a_edges_above : Addr
  fd_edges_above : FuncData
  f_edges_above : Fun K "edges_above" "edges_above" s_edges_above a_edges_above fd_edges_above
  g_edges_above : mg "edges_above" = some (.ref a_edges_above)
  bd_edges_above : Binds K fd_edges_above ["tree", "node"] []
  a_mirror : Addr
  fd_mirror : FuncData
  f_mirror : Fun K "mirror" "mirror" s_mirror a_mirror fd_mirror
  g_mirror : mg "mirror" = some (.ref a_mirror)
  bd_mirror : Binds K fd_mirror ["schedule"] []
  a_mirrored_node : Addr
  fd_mirrored_node : FuncData
  f_mirrored_node : Fun K "mirrored_node" "mirrored_node" s_mirrored_node a_mirrored_node fd_mirrored_node
  g_mirrored_node : mg "mirrored_node" = some (.ref a_mirrored_node)
  bd_mirrored_node : Binds K fd_mirrored_node ["node", "last"] []
  a_write_work : Addr
  fd_write_work : FuncData
  f_write_work : Fun K "write_work" "write_work" s_write_work a_write_work fd_write_work
  g_write_work : mg "write_work" = some (.ref a_write_work)
  bd_write_work : Binds K fd_write_work ["schedule", "sizes"] []
  a_weighted : Addr
  fd_weighted : FuncData
  f_weighted : Fun K "weighted" "weighted" s_weighted a_weighted fd_weighted
  g_weighted : mg "weighted" = some (.ref a_weighted)
  bd_weighted : Binds K fd_weighted ["loads", "counts"] []
  a_is_key : Addr
  fd_is_key : FuncData
  f_is_key : Fun K "is_key" "is_key" s_is_key a_is_key fd_is_key
  g_is_key : mg "is_key" = some (.ref a_is_key)
  bd_is_key : Binds K fd_is_key ["value"] []
  a_check_key : Addr
  fd_check_key : FuncData
  f_check_key : Fun K "check_key" "check_key" s_check_key a_check_key fd_check_key
  g_check_key : mg "check_key" = some (.ref a_check_key)
  bd_check_key : Binds K fd_check_key ["key"] []
  a_is_policy : Addr
  fd_is_policy : FuncData
  f_is_policy : Fun K "is_policy" "is_policy" s_is_policy a_is_policy fd_is_policy
  g_is_policy : mg "is_policy" = some (.ref a_is_policy)
  bd_is_policy : Binds K fd_is_policy ["value"] []
  a_Store___init__ : Addr
  fd_Store___init__ : FuncData
  f_Store___init__ : Fun K "__init__" "Store.__init__" s_Store___init__ a_Store___init__ fd_Store___init__
  bd_Store___init__ : Binds K fd_Store___init__ ["self", "policy"] []
  mk_Store : Mk K C_Store a_Store___init__
  a_Store_put : Addr
  fd_Store_put : FuncData
  f_Store_put : Fun K "put" "Store.put" s_Store_put a_Store_put fd_Store_put
  bd_Store_put : Binds K fd_Store_put ["self", "key", "value"] []
  m_Store_put : Meth K C_Store "put" a_Store_put
  a_Store_write : Addr
  fd_Store_write : FuncData
  f_Store_write : Fun K "write" "Store.write" s_Store_write a_Store_write fd_Store_write
  bd_Store_write : Binds K fd_Store_write ["self", "key", "value"] []
  m_Store_write : Meth K C_Store "write" a_Store_write
  a_Store_flush : Addr
  fd_Store_flush : FuncData
  f_Store_flush : FunD K "flush" "Store.flush" (defArgs s_Store_flush) (defBody s_Store_flush) (defScope s_Store_flush) [.non] [] a_Store_flush fd_Store_flush
  ds_Store_flush : List Value
  vd_Store_flush : Vals [.non] ds_Store_flush
  bd_Store_flush : Binds K fd_Store_flush ["self", "merge"] ds_Store_flush
  m_Store_flush : Meth K C_Store "flush" a_Store_flush
  kb_Store_flush_merge : KBn K fd_Store_flush ["self", "merge"] 1 ["merge"] gA gA
  a_Store_check_merge : Addr
  fd_Store_check_merge : FuncData
  f_Store_check_merge : Fun K "check_merge" "Store.check_merge" s_Store_check_merge a_Store_check_merge fd_Store_check_merge
  bd_Store_check_merge : Binds K fd_Store_check_merge ["self", "merge"] []
  m_Store_check_merge : Meth K C_Store "check_merge" a_Store_check_merge
  a_Store_chosen_merge : Addr
  fd_Store_chosen_merge : FuncData
  f_Store_chosen_merge : Fun K "chosen_merge" "Store.chosen_merge" s_Store_chosen_merge a_Store_chosen_merge fd_Store_chosen_merge
  bd_Store_chosen_merge : Binds K fd_Store_chosen_merge ["self", "merge"] []
  m_Store_chosen_merge : Meth K C_Store "chosen_merge" a_Store_chosen_merge
  a_Store_read : Addr
  fd_Store_read : FuncData
  f_Store_read : FunD K "read" "Store.read" (defArgs s_Store_read) (defBody s_Store_read) (defScope s_Store_read) [] [("moment", .non)] a_Store_read fd_Store_read
  ds_Store_read : List Value
  vd_Store_read : Vals [.non] ds_Store_read
  bd_Store_read : Binds K fd_Store_read ["self", "key", "moment"] ds_Store_read
  m_Store_read : Meth K C_Store "read" a_Store_read
  a_Store_flushes_until : Addr
  fd_Store_flushes_until : FuncData
  f_Store_flushes_until : Fun K "flushes_until" "Store.flushes_until" s_Store_flushes_until a_Store_flushes_until fd_Store_flushes_until
  bd_Store_flushes_until : Binds K fd_Store_flushes_until ["self", "moment"] []
  m_Store_flushes_until : Meth K C_Store "flushes_until" a_Store_flushes_until
  a_Store_check_moment : Addr
  fd_Store_check_moment : FuncData
  f_Store_check_moment : Fun K "check_moment" "Store.check_moment" s_Store_check_moment a_Store_check_moment fd_Store_check_moment
  bd_Store_check_moment : Binds K fd_Store_check_moment ["self", "moment"] []
  m_Store_check_moment : Meth K C_Store "check_moment" a_Store_check_moment
  a_Store_visited : Addr
  fd_Store_visited : FuncData
  f_Store_visited : Fun K "visited" "Store.visited" s_Store_visited a_Store_visited fd_Store_visited
  bd_Store_visited : Binds K fd_Store_visited ["self"] []
  m_Store_visited : Meth K C_Store "visited" a_Store_visited
  a_Store_stack : Addr
  fd_Store_stack : FuncData
  f_Store_stack : Fun K "stack" "Store.stack" s_Store_stack a_Store_stack fd_Store_stack
  bd_Store_stack : Binds K fd_Store_stack ["self"] []
  m_Store_stack : Meth K C_Store "stack" a_Store_stack
  a_Store_schedule : Addr
  fd_Store_schedule : FuncData
  f_Store_schedule : Fun K "schedule" "Store.schedule" s_Store_schedule a_Store_schedule fd_Store_schedule
  bd_Store_schedule : Binds K fd_Store_schedule ["self"] []
  m_Store_schedule : Meth K C_Store "schedule" a_Store_schedule
  a_Store_sizes : Addr
  fd_Store_sizes : FuncData
  f_Store_sizes : Fun K "sizes" "Store.sizes" s_Store_sizes a_Store_sizes fd_Store_sizes
  bd_Store_sizes : Binds K fd_Store_sizes ["self"] []
  m_Store_sizes : Meth K C_Store "sizes" a_Store_sizes
  a_Store_written : Addr
  fd_Store_written : FuncData
  f_Store_written : Fun K "written" "Store.written" s_Store_written a_Store_written fd_Store_written
  bd_Store_written : Binds K fd_Store_written ["self"] []
  m_Store_written : Meth K C_Store "written" a_Store_written
  a_L_start_draws : Addr
  fd_L_start_draws : FuncData
  f_L_start_draws : Fun K "_law_start_draws" "_law_start_draws" s_L_start_draws a_L_start_draws fd_L_start_draws
  g_L_start_draws : mg "_law_start_draws" = some (.ref a_L_start_draws)
  bd_L_start_draws : Binds K fd_L_start_draws ["_law_script", "_law_nth"] []
  a_L_next : Addr
  fd_L_next : FuncData
  f_L_next : Fun K "_law_next" "_law_next" s_L_next a_L_next fd_L_next
  g_L_next : mg "_law_next" = some (.ref a_L_next)
  bd_L_next : Binds K fd_L_next ["_law_deal", "_law_upto"] []
  a_L_pick : Addr
  fd_L_pick : FuncData
  f_L_pick : Fun K "_law_pick" "_law_pick" s_L_pick a_L_pick fd_L_pick
  g_L_pick : mg "_law_pick" = some (.ref a_L_pick)
  bd_L_pick : Binds K fd_L_pick ["_law_deal", "_law_some"] []
  a_L_sized : Addr
  fd_L_sized : FuncData
  f_L_sized : Fun K "_law_sized" "_law_sized" s_L_sized a_L_sized fd_L_sized
  g_L_sized : mg "_law_sized" = some (.ref a_L_sized)
  bd_L_sized : Binds K fd_L_sized ["_law_store", "_law_size", "_law_fold"] []
  a_L_both_works : Addr
  fd_L_both_works : FuncData
  f_L_both_works : Fun K "_law_both_works" "_law_both_works" s_L_both_works a_L_both_works fd_L_both_works
  g_L_both_works : mg "_law_both_works" = some (.ref a_L_both_works)
  bd_L_both_works : Binds K fd_L_both_works ["_law_plan", "_law_sizes_of", "_law_reads_of"] []
  a_L_some_folds : Addr
  fd_L_some_folds : FuncData
  f_L_some_folds : Fun K "_law_some_folds" "_law_some_folds" s_L_some_folds a_L_some_folds fd_L_some_folds
  g_L_some_folds : mg "_law_some_folds" = some (.ref a_L_some_folds)
  bd_L_some_folds : Binds K fd_L_some_folds ["_law_deal", "_law_size"] []
  a_L_right : Addr
  fd_L_right : FuncData
  f_L_right : Fun K "_law_right" "_law_right" s_L_right a_L_right fd_L_right
  g_L_right : mg "_law_right" = some (.ref a_L_right)
  bd_L_right : Binds K fd_L_right ["_law_deal"] []
  a_law : Addr
  fd_law : FuncData
  f_law : Fun K "law" "law" s_law a_law fd_law
  g_law : mg "law" = some (.ref a_law)
  bd_law : Binds K fd_law ["_law_script"] []
  na_Store_rule : NoAttr K C_Store "rule"
  na_Store_merges : NoAttr K C_Store "merges"
  na_Store_batches : NoAttr K C_Store "batches"
  na_Store_buffer : NoAttr K C_Store "buffer"
  na_Store_history : NoAttr K C_Store "history"
  na_Store_searched : NoAttr K C_Store "searched"
  wp : Params
  d_POLICIES : Addr
  gd_POLICIES : mg "POLICIES" = some (.ref d_POLICIES)
  es_POLICIES : Array DictEntry
  en_POLICIES : Nat
  kl_POLICIES : K.lookup d_POLICIES = some ⟨.type "dict", none, .dict es_POLICIES en_POLICIES, #[]⟩
  ks_POLICIES : PySem.W.KeysLit wp es_POLICIES.toList
  kn_POLICIES : (d_POLICIES == sysModules) = false
  ke_POLICIES_manual : ∃ t, PySem.W.nsIn K d_POLICIES "manual" = some (some (.int 0 t))
  ke_POLICIES_runs : ∃ t, PySem.W.nsIn K d_POLICIES "runs" = some (some (.int 1 t))
  ke_POLICIES_budget : ∃ t, PySem.W.nsIn K d_POLICIES "budget" = some (some (.int 2 t))
  b_isinstance : mg "isinstance" = none
  b_int : mg "int" = none
  b_bool : mg "bool" = none
  b_all : mg "all" = none
  b_tuple : mg "tuple" = none
  b_len : mg "len" = none
  b_enumerate : mg "enumerate" = none
  b_range : mg "range" = none
  b_max : mg "max" = none
  b_reversed : mg "reversed" = none
  b_sum : mg "sum" = none
  b_zip : mg "zip" = none
  b_str : mg "str" = none
  b_min : mg "min" = none
  b_abs : mg "abs" = none
  b_list : mg "list" = none
  t_MOST_BUDGET : Tok
  c_MOST_BUDGET : mg "MOST_BUDGET" = some (.int (60) t_MOST_BUDGET)
  t_MOST_LOAD : Tok
  c_MOST_LOAD : mg "MOST_LOAD" = some (.int (1000000000) t_MOST_LOAD)
  t_MOST_FLUSHES : Tok
  c_MOST_FLUSHES : mg "MOST_FLUSHES" = some (.int (60) t_MOST_FLUSHES)
  t_NO_PARENT : Tok
  c_NO_PARENT : mg "NO_PARENT" = some (.int (-1) t_NO_PARENT)
  t_MOST_POSITION : Tok
  c_MOST_POSITION : mg "MOST_POSITION" = some (.int (1000000000000000000) t_MOST_POSITION)
  t_MOST_LETTERS : Tok
  c_MOST_LETTERS : mg "MOST_LETTERS" = some (.int (8) t_MOST_LETTERS)
class WP {K : PySem.W.Frag} {mg : Str → Option Value} (w : World) (TX : Tx K mg) : Prop where
  eq : w.params = TX.wp
theorem kd_POLICIES {K : PySem.W.Frag} {mg : Str → Option Value} {w : World} (TX : Tx K mg) [h : WP w TX] : KDict K w TX.d_POLICIES TX.es_POLICIES TX.en_POLICIES := ⟨TX.kl_POLICIES, by rw [h.eq]; exact TX.ks_POLICIES, TX.kn_POLICIES⟩
theorem kv_POLICIES_manual {K : PySem.W.Frag} {mg : Str → Option Value} {w : World} (TX : Tx K mg) [h : WP w TX] : KDct K w TX.d_POLICIES "manual" (.int 0) := let ⟨t, e⟩ := TX.ke_POLICIES_manual; ⟨_, _, _, TX.kl_POLICIES, by rw [h.eq]; exact TX.ks_POLICIES, e, ⟨_, rfl⟩⟩
theorem kv_POLICIES_runs {K : PySem.W.Frag} {mg : Str → Option Value} {w : World} (TX : Tx K mg) [h : WP w TX] : KDct K w TX.d_POLICIES "runs" (.int 1) := let ⟨t, e⟩ := TX.ke_POLICIES_runs; ⟨_, _, _, TX.kl_POLICIES, by rw [h.eq]; exact TX.ks_POLICIES, e, ⟨_, rfl⟩⟩
theorem kv_POLICIES_budget {K : PySem.W.Frag} {mg : Str → Option Value} {w : World} (TX : Tx K mg) [h : WP w TX] : KDct K w TX.d_POLICIES "budget" (.int 2) := let ⟨t, e⟩ := TX.ke_POLICIES_budget; ⟨_, _, _, TX.kl_POLICIES, by rw [h.eq]; exact TX.ks_POLICIES, e, ⟨_, rfl⟩⟩
section
variable {P : Program} {w : World} {K : PySem.W.Frag} {mg : Str → Option Value} {base : Heap}
def sp_is_int (K : PySem.W.Frag) : Sp := fun vs H Q _ => ∃ i : Int, vs = [.int i] ∧ Q (.bl true) H
theorem ok_is_int (TX : Tx K mg) : FnOk P w K mg base CX0 1 TX.a_is_int TX.fd_is_int ["value"] (sp_is_int K) := by
  refine TX.f_is_int.ok sc_is_int (fun vs H Q E h => ?_) (fun cdv A outer s H vs Q E hr h => ?_)
  · obtain ⟨i, rfl, _⟩ := h; rfl
  · obtain ⟨i, rfl, q⟩ := h
    refine ⟨_, (pss_one (ps_ret (pe_and (pe_callB (id := "isinstance") (k_isi (K := K) rfl) (by rfl) TX.b_isinstance (by decide +kernel) (pa_cons (pv 0) (pa_cons (pe_bltn (v := .ty "int") (by rfl) TX.b_int (by decide +kernel) rfl) pa_nil))) (pe_one (pe_not (pe_callB (id := "isinstance") (k_isi (K := K) rfl) (by rfl) TX.b_isinstance (by decide +kernel) (pa_cons (pv 0) (pa_cons (pe_bltn (v := .ty "bool") (by rfl) TX.b_bool (by decide +kernel) rfl) pa_nil)))))))), ?_⟩
    refine ⟨.int i, rfl, .int i, .ty "int", .type "int", .type "int", true, rfl, .ty _, .base (.int i), kit_ty (by decide +kernel), true, rfl, ?_⟩
    exact iteT ⟨.int i, rfl, .int i, .ty "bool", .type "int", .type "bool", false, rfl, .ty _, .base (.int i), kit_ty (by decide +kernel), false, rfl, q⟩
def sp_is_count (K : PySem.W.Frag) : Sp := fun vs H Q _ => ∃ i : Int, vs = [.int i] ∧ Q (.bl (decide (0 ≤ i))) H
theorem ok_is_count (TX : Tx K mg) : FnOk P w K mg base CX0 2 TX.a_is_count TX.fd_is_count ["value"] (sp_is_count K) := by
  refine TX.f_is_count.ok sc_is_count (fun vs H Q E h => ?_) (fun cdv A outer s H vs Q E hr h => ?_)
  · obtain ⟨i, rfl, _⟩ := h; rfl
  · obtain ⟨i, rfl, q⟩ := h
    refine ⟨_, (pss_one (ps_ret (pe_and (pe_call (ok_is_int TX) (hr.mono (by decide)) (by rfl) TX.g_is_int TX.f_is_int.kp TX.bd_is_int .nil pass0 (pa_cons (pv 0) pa_nil)) (pe_one (pe_cmpR op_ge (pv 0) pe_int (nomark _)))))), ?_⟩
    exact ⟨.int i, rfl, i, rfl, true, rfl, iteT ⟨.int i, rfl, i, 0, rfl, rfl, q⟩⟩
def sp_is_count_up_to (K : PySem.W.Frag) : Sp := fun vs H Q _ => ∃ i m : Int, vs = [.int i, .int m] ∧ Q (.bl (decide (0 ≤ i) && decide (i ≤ m))) H
theorem ok_is_count_up_to (TX : Tx K mg) : FnOk P w K mg base CX0 3 TX.a_is_count_up_to TX.fd_is_count_up_to ["value", "most"] (sp_is_count_up_to K) := by
  refine TX.f_is_count_up_to.ok sc_is_count_up_to (fun vs H Q E h => ?_) (fun cdv A outer s H vs Q E hr h => ?_)
  · obtain ⟨i, m, rfl, _⟩ := h; rfl
  · obtain ⟨i, m, rfl, q⟩ := h
    refine ⟨_, (pss_one (ps_ret (pe_and (pe_call (ok_is_count TX) (hr.mono (by decide)) (by rfl) TX.g_is_count TX.f_is_count.kp TX.bd_is_count .nil pass0 (pa_cons (pv 0) pa_nil)) (pe_one (pe_cmpR op_le (pv 0) (pv 1) (nomark _)))))), ?_⟩
    refine ⟨.int i, rfl, i, rfl, _, rfl, ?_⟩
    by_cases h0 : 0 ≤ i
    · rw [decide_eq_true h0] at q ⊢
      exact iteT ⟨.int i, rfl, .int m, rfl, i, m, rfl, rfl, q⟩
    · rw [decide_eq_false h0] at q ⊢
      exact iteF q
def sp_is_schedule (K : PySem.W.Frag) : Sp := fun vs H Q _ => ∃ (a : Addr) (t : T), vs = [.ref a] ∧ SqT K H a (vi t.sch) ∧ t.size ≤ 60 ∧ Q (.bl true) H
theorem ok_is_schedule (TX : Tx K mg) : FnOk P w K mg base CX0 4 TX.a_is_schedule TX.fd_is_schedule ["value"] (sp_is_schedule K) := by
  refine TX.f_is_schedule.ok sc_is_schedule (fun vs H Q E h => ?_) (fun cdv A outer s H vs Q E hr h => ?_)
  · obtain ⟨a, t, rfl, _⟩ := h; rfl
  · obtain ⟨a, t, rfl, hS, hz, q⟩ := h
    have hlen : (vi t.sch).length = t.size := by rw [vi_len, T.sch_len]
    refine ⟨_, (pss_cons (ps_if (PW.pt (pw_or (pt_not (pt_val (pe_callB (id := "isinstance") (k_isi (K := K) rfl) (by rfl) TX.b_isinstance (by decide +kernel) (pa_cons (pv 0) (pa_cons (pe_bltn (v := .ty "tuple") (by rfl) TX.b_tuple (by decide +kernel) rfl) pa_nil))))) (pw_or1 (pt_cmpR op_gt (pe_callB (id := "len") (k_len (K := K) rfl) (by rfl) TX.b_len (by decide +kernel) (pa_cons (pv 0) pa_nil)) (pe_glob (v := .int (60)) (by rfl) TX.c_MOST_FLUSHES ⟨_, rfl⟩) (nomark _)))))
        (pss_one (ps_ret pe_bl))
        pss_nil)
      (pss_cons (ps_set (i := 1) sc_is_schedule.nd rfl (.inl rfl) pe_int)
      (pss_cons (ps_for PassesOwn.never rfl (k_piT (K := K) rfl (pv 0)) (pg_name (i := 2) sc_is_schedule.nd rfl (.inl rfl))
        (pss_cons (ps_if (pt_not (pt_val (pe_call (ok_is_count_up_to TX) (hr.mono (by decide)) (by rfl) TX.g_is_count_up_to TX.f_is_count_up_to.kp TX.bd_is_count_up_to .nil pass0 (pa_cons (pv 2) (pa_cons (pv 1) pa_nil)))))
          (pss_one (ps_ret pe_bl))
          pss_nil)
        (pss_one (ps_set (i := 1) sc_is_schedule.nd rfl (.inl rfl) (pe_op op_add (pe_op op_sub (pv 1) (pv 2)) pe_int)))))
      (pss_one (ps_ret pe_bl))))), ?_⟩
    refine ⟨.ref a, rfl, .ref a, .ty "tuple", .type "tuple", .type "tuple", true, rfl, .ty _, ty_tup hS, kit_ty (by decide +kernel), true, rfl, iteF ⟨.ref a, rfl, a, _, rfl, .inr hS, _, _, rfl, rfl, _, rfl, decF (by rw [hlen]; omega) ?_⟩⟩
    refine ⟨.ref a, rfl, a, rfl, ⟨_, hS⟩, for_tup (K := K) (xs := vi t.sch) (fun i σ H' => H' = H ∧ ∃ y2, σ = [some (.ref a), some (.int ((pre t i).runs : Int)), y2] ) ⟨rfl, none, rfl⟩ (fun i σ H' _ h => by rw [h.1]; exact hS) ?_ ?_⟩
    · rintro i x σ H' hx ⟨rfl, y2, rfl⟩
      have hi : i < t.sch.length := by
        have := (List.getElem?_eq_some_iff.mp hx).1
        rwa [vi_len] at this
      have hm := List.getElem?_eq_getElem hi
      rw [vi_get hm] at hx
      cases hx
      obtain ⟨e1, h1⟩ := pre_succ hm
      have e2 := T.push_runs _ _ h1
      refine ⟨_, rfl, _, rfl, _, _, rfl, true, ?_, iteF ⟨_, rfl, _, rfl, _, _, rfl, rfl, _, _, rfl, rfl, rfl, some (.int (t.sch[i] : Int)), ?_⟩⟩
      · rw [decide_eq_true (by omega), decide_eq_true (by omega)]; rfl
      · rw [e1, e2]
        show [_, _, _] = [_, _, _]
        simp only [Int.natCast_add, Int.natCast_sub h1]
        rfl
    · rintro σ H' ⟨rfl, y2, rfl⟩
      exact q
end
def dPr (p : Nat × Nat) : PyData := .tuple [.int (p.1 : Int), .int (p.2 : Int)]
def dStk (l : List (Nat × Nat)) : PyData := .tuple (l.map dPr)
theorem tf_pr (p : Nat × Nat) : Tf (dPr p) := .tup fun d h => by
  rcases List.mem_cons.mp h with rfl | h
  · exact .int _
  · rcases List.mem_cons.mp h with rfl | h
    · exact .int _
    · cases h
theorem tf_stk (l : List (Nat × Nat)) : Tf (dStk l) := .tup fun d h => by
  obtain ⟨p, _, rfl⟩ := List.mem_map.mp h
  exact tf_pr p
section
variable {P : Program} {w : World} {K : PySem.W.Frag} {mg : Str → Option Value} {base : Heap}
def sp_stack_after (K : PySem.W.Frag) : Sp := fun vs H Q _ => ∃ (a : Addr) (t : T) (m : Nat), vs = [.ref a, .int (t.size : Int), .int (m : Int)] ∧ Dp K H (.ref a) (dStk (t.stk 0)) ∧ m ≤ t.runs ∧ t.size ≤ 60 ∧
  ∀ H' p, Same H H' → Dp K H' (.ref p) (dStk ((t.push m).stk 0)) → Q (.ref p) H'
theorem ok_stack_after (TX : Tx K mg) : FnOk P w K mg base CX0 1 TX.a_stack_after TX.fd_stack_after ["stack", "flush", "merge"] (sp_stack_after K) := by
  refine TX.f_stack_after.ok sc_stack_after (fun vs H Q E h => ?_) (fun cdv A outer s H vs Q E hr h => ?_)
  · obtain ⟨a, t, m, rfl, _⟩ := h; rfl
  · obtain ⟨a, t, m, rfl, hS, hm, hz, q⟩ := h
    obtain ⟨a', xs, e, hS, hA⟩ := Dp.tupInv hS
    cases e
    have hl := DpAll.len hA
    rw [List.length_map, T.stk_len] at hl
    have hrs := T.runs_le t
    have hst := T.start_le t m hm
    have e2 : ((xs.length : Int) - (m : Int)) = ((t.runs - m : Nat) : Int) := by rw [hl]; omega
    refine ⟨_, (pss_cons (ps_set (i := 3) sc_stack_after.nd rfl (.inl rfl) (pe_op op_sub (pe_callB (id := "len") (k_len (K := K) rfl) (by rfl) TX.b_len (by decide +kernel) (pa_cons (pv 0) pa_nil)) (pv 2)))
      (pss_cons (ps_set (i := 4) sc_stack_after.nd rfl (.inl rfl) (pe_ifExp (pt_cmpR op_gt (pv 2) pe_int (nomark _)) (pe_ix (k_ixT (K := K) rfl) (pe_ix (k_ixT (K := K) rfl) (pv 0) (pv 3) (fun _ _ => rfl)) pe_int (fun _ _ => rfl)) (pv 1)))
      (pss_one (ps_ret (pe_op (k_catT (K := K) rfl) (pe_slice (k_slT (K := K) rfl) (pv 0) po_none (po_some (pv 3))) (pe_tup (pa_cons (pe_tup (pa_cons (pv 4) (pa_cons (pe_op op_add (pv 1) pe_int) pa_nil))) pa_nil))))))), ?_⟩
    refine ⟨.ref a, rfl, a, xs, rfl, .inr hS, .int m, rfl, _, _, rfl, rfl, ?_⟩
    refine ⟨.int m, rfl, m, 0, rfl, rfl, _, rfl, ?_⟩
    have pos : (0 < m → ∃ b e, xs[t.runs - m]? = some (.ref b) ∧ SqT K H b [.int (t.start m : Int), .int e]) := fun h0 => by
      obtain ⟨e, he⟩ := T.stk_at t m hm 0 h0
      have h1 : ((t.stk 0).map dPr)[t.runs - m]? = some (dPr (0 + t.start m, e)) := by rw [List.getElem?_map, he]; rfl
      obtain ⟨v, h2, h3⟩ := DpAll.get hA h1
      obtain ⟨b, ys, rfl, h4, h5⟩ := Dp.tupInv h3
      have h6 : ys = [V.int (t.start m : Int), V.int (e : Int)] := by
        have := dp_ints_inv (ns := [((0 + t.start m : Nat) : Int), (e : Int)]) h5
        rw [this, Nat.zero_add]; rfl
      rw [h6] at h4
      exact ⟨b, e, h2, h4⟩
    have fin : ∀ p1 H1 p2 p3, Same H H1 → SqT K H1 p1 (xs.take (t.runs - m)) → H1 p2 = none → (upd H1 p2 (.tup [.int (t.start m : Int), .int ((t.size : Int) + 1)])) p3 = none →
        rCatA K (.ref p1) (.ref p3) (upd (upd H1 p2 (.tup [.int (t.start m : Int), .int ((t.size : Int) + 1)])) p3 (.tup [.ref p2])) Q := fun p1 H1 p2 p3 s1 h1 n2 n3 => by
      have s2 : Same H1 (upd H1 p2 (.tup [.int (t.start m : Int), .int ((t.size : Int) + 1)])) := same_upd n2
      have s3 := same_upd (o := .tup [.ref p2]) n3
      refine cat_read (Same.tup (s2.trans s3) h1) (.inl (.inl upd_same)) (by rw [List.length_take]; simp; omega) fun p H' s4 h4 => q H' p (((s1.trans s2).trans s3).trans s4) ?_
      rw [T.stk_push t m hm 0]
      unfold dStk
      rw [List.map_append, List.map_take]
      refine .tup h4 (DpAll.append (DpAll.same (((s1.trans s2).trans s3).trans s4) (DpAll.take _ hA)) (.cons ?_ .nil))
      refine .tup (xs := [.int (t.start m : Int), .int ((t.size : Int) + 1)]) (Same.tup (s3.trans s4) (.inl (.inl upd_same))) ?_
      have := dp_ints (K := K) (H := H') [(t.start m : Int), ((t.size : Int) + 1)]
      simpa using this
    refine ite2 (fun h => ?_) (fun h => ?_)
    · have h0 : 0 < m := by simpa using h
      obtain ⟨b, e, h2, h4⟩ := pos h0
      refine ⟨.ref a, rfl, _, rfl, a, xs, _, .ref b, rfl, rfl, hS, (by rw [e2]; exact atI_nat h2), b, _, 0, .int (t.start m : Int), rfl, rfl, h4, rfl, ?_⟩
      refine ⟨.ref a, rfl, _, rfl, _, rfl, sl_read hS fun p1 H1 s1 h1 => ?_⟩
      refine ⟨_, rfl, _, rfl, _, _, rfl, rfl, sz60 (by simp), fun p2 n2 => ⟨sz60 (by simp), fun p3 n3 => ?_⟩⟩
      exact fin p1 H1 p2 p3 s1 (by rw [e2, cut_to (by omega)] at h1; exact h1) n2 n3
    · have h0 : m = 0 := by
        have : ¬ (0 < m) := by simpa using h
        omega
      refine ⟨.int (t.start m : Int), by rw [T.start_zero t m hm h0]; rfl, ?_⟩
      refine ⟨.ref a, rfl, _, rfl, _, rfl, sl_read hS fun p1 H1 s1 h1 => ?_⟩
      refine ⟨_, rfl, _, rfl, _, _, rfl, rfl, sz60 (by simp), fun p2 n2 => ⟨sz60 (by simp), fun p3 n3 => ?_⟩⟩
      exact fin p1 H1 p2 p3 s1 (by rw [e2, cut_to (by omega)] at h1; exact h1) n2 n3
def dStacks (t : T) : List PyData := (List.range t.size).map fun i => dStk ((pre t (i + 1)).stk 0)
theorem tf_stacks (t : T) : ∀ d, d ∈ dStacks t → Tf d := fun d h => by
  obtain ⟨i, _, rfl⟩ := List.mem_map.mp h
  exact tf_stk _
theorem dStacks_len (t : T) : (dStacks t).length = t.size := by simp [dStacks]
theorem dStacks_at {t : T} {i : Nat} (h : i < t.size) : (dStacks t)[i]? = some (dStk ((pre t (i + 1)).stk 0)) := by simp [dStacks, h]
theorem dStacks_take {t : T} {i : Nat} (h : i < t.size) : (dStacks t).take (i + 1) = (dStacks t).take i ++ [dStk ((pre t (i + 1)).stk 0)] := by
  rw [List.take_add_one, dStacks_at h]; rfl
def sp_stacks (K : PySem.W.Frag) : Sp := fun vs H Q _ => ∃ (a : Addr) (t : T), vs = [.ref a] ∧ SqT K H a (vi t.sch) ∧ t.size ≤ 60 ∧ ∀ H' p, Same H H' → Dp K H' (.ref p) (.tuple (dStacks t)) → Q (.ref p) H'
theorem ok_stacks (TX : Tx K mg) : FnOk P w K mg base CX0 5 TX.a_stacks TX.fd_stacks ["schedule"] (sp_stacks K) := by
  refine TX.f_stacks.ok sc_stacks (fun vs H Q E h => ?_) (fun cdv A outer s H vs Q E hr h => ?_)
  · obtain ⟨a, t, rfl, _⟩ := h; rfl
  · obtain ⟨a, t, rfl, hS, hz, q⟩ := h
    have hlen : (vi t.sch).length = t.size := by rw [vi_len, T.sch_len]
    refine ⟨_, (pss_cons (ps_if (pt_not (pt_val (pe_call (ok_is_schedule TX) (hr.mono (by decide)) (by rfl) TX.g_is_schedule TX.f_is_schedule.kp TX.bd_is_schedule .nil pass0 (pa_cons (pv 0) pa_nil))))
        (pss_one ps_never)
        pss_nil)
      (pss_cons (ps_set (i := 1) sc_stacks.nd rfl (.inl rfl) (pe_tup pa_nil))
      (pss_cons (ps_set (i := 2) sc_stacks.nd rfl (.inl rfl) (pe_lst pa_nil))
      (pss_cons (ps_for PassesOwn.never rfl (pi_enumT (by rfl) TX.b_enumerate (pa_cons (pv 0) pa_nil)) (pg_tup rfl (pgs_cons (pg_name (i := 3) sc_stacks.nd rfl (.inl rfl)) (pgs_cons (pg_name (i := 4) sc_stacks.nd rfl (.inl rfl)) pgs_nil)))
        (pss_cons (ps_set (i := 1) sc_stacks.nd rfl (.inl rfl) (pe_call (ok_stack_after TX) (hr.mono (by decide)) (by rfl) TX.g_stack_after TX.f_stack_after.kp TX.bd_stack_after .nil pass0 (pa_cons (pv 1) (pa_cons (pv 3) (pa_cons (pv 4) pa_nil)))))
        (pss_one (ps_expr (pe_bm PySem.F.plainAttrs_list PySem.F.slot_list_append PySem.F.type_list_append mt_append (pv 2) (pa_cons (pv 1) pa_nil))))))
      (pss_one (ps_ret (pe_callTy (T := "tuple") (k_tupOf (K := K) rfl) (by rfl) TX.b_tuple (by decide +kernel) (pa_cons (pv 2) pa_nil)))))))), ?_⟩
    refine ⟨.ref a, rfl, a, t, rfl, hS, hz, true, rfl, iteF ⟨sz60 (by simp), fun p0 n0 => ⟨sz60 (by simp), fun r nr => ?_⟩⟩⟩
    have s0 : Same H (upd H p0 (.tup [])) := same_upd n0
    have s1 : Same (upd H p0 (.tup [])) (upd (upd H p0 (.tup [])) r (.lst [])) := same_upd nr
    have nr0 : H r = none := s0.free nr
    refine ⟨.ref a, rfl, a, _, rfl, Same.tup (s0.trans s1) hS, for_it walk_enumT (fun i σ H' => ∃ p y3 y4 acc, σ = [some (.ref a), some (.ref p), some (.ref r), y3, y4] ∧ Same H H' ∧ Dp K H' (.ref p) (dStk ((pre t i).stk 0)) ∧ H' r = some (.lst acc) ∧ DpAll K H' acc ((dStacks t).take i))
      ⟨p0, none, none, [], rfl, s0.trans s1, .tup (Same.tup s1 (.inl (.inl upd_same))) .nil, upd_same, .nil⟩ (fun i σ H' _ ⟨_, _, _, _, _, h, _⟩ => Same.tup h hS) ?_ ?_⟩
    · rintro i x σ H1 H2 hi ⟨p, y3, y4, acc, rfl, sm, hp, hr', hA⟩ hy
      obtain ⟨Tp, x1, x2, rfl, nT, rfl, e1, e2⟩ := hy
      cases e1
      have hi' : i < t.sch.length := by rw [vi_len] at hi; exact hi
      have hm := List.getElem?_eq_getElem hi'
      replace e2 : (vi t.sch)[i]? = some x2 := e2
      rw [vi_get hm] at e2
      cases e2
      have hi2 : i < t.size := by rw [← T.sch_len]; exact hi'
      obtain ⟨f1, f2⟩ := pre_succ hm
      have sT : Same H1 (upd H1 Tp (.tup [.int (i : Nat), .int (t.sch[i] : Int)])) := same_upd nT
      refine ⟨Tp, _, rfl, .inl (.inl upd_same), rfl, _, _, rfl, _, [], rfl, rfl, ?_⟩
      refine ⟨.ref p, rfl, .int (i : Nat), rfl, .int (t.sch[i] : Int), rfl, p, pre t i, t.sch[i], ?_, Dp.same sT hp, f2, by rw [pre_size (by omega)]; omega, fun H3 p3 s3 h3 => ?_⟩
      · rw [pre_size (by omega)]; rfl
      · rw [← f1] at h3
        have hr3 := s3 _ _ (sT _ _ hr')
        have hlA := DpAll.len hA
        rw [List.length_take, dStacks_len] at hlA
        refine ⟨.ref r, rfl, .inl ⟨rfl, _, .inl (.inl hr3)⟩, .ref p3, rfl, r, _, _, rfl, rfl, hr3, sz61 (by omega), ?_⟩
        have kp : Keep K H3 (upd H3 r (.lst (acc ++ [.ref p3]))) := But.keep But.upd hr3
        refine ⟨p3, some (.int (i : Nat)), some (.int (t.sch[i] : Int)), acc ++ [.ref p3], rfl, Same.mut ((sm.trans sT).trans s3) nr0, Dp.keep kp (tf_stk _) h3, upd_same, ?_⟩
        rw [dStacks_take hi2]
        refine DpAll.keep kp (fun d h => ?_) (DpAll.append (DpAll.same (sT.trans s3) hA) (.cons h3 .nil))
        rw [← dStacks_take hi2] at h
        exact tf_stacks t d (List.mem_of_mem_take h)
    · rintro σ H' ⟨p, y3, y4, acc, rfl, sm, hp, hr', hA⟩
      rw [hlen, List.take_of_length_le (by rw [dStacks_len]; omega)] at hA
      refine ⟨.ref r, rfl, r, acc, rfl, .inl ⟨.inl (.inl hr'), fun l nl => ?_⟩⟩
      exact q _ l (sm.trans (same_upd nl)) (.tup (.inl (.inl upd_same)) (DpAll.same (same_upd nl) hA))
end
section
variable {P : Program} {w : World} {K : PySem.W.Frag} {mg : Str → Option Value} {base : Heap}
def sp_writes (K : PySem.W.Frag) : Sp := fun vs H Q _ => ∃ (a : Addr) (t : T), vs = [.ref a] ∧ SqT K H a (vi t.sch) ∧ t.size ≤ 60 ∧ ∀ H' p, Same H H' → SqT K H' p (vi t.wr) → Q (.ref p) H'
theorem ok_writes (TX : Tx K mg) : FnOk P w K mg base CX0 6 TX.a_writes TX.fd_writes ["schedule"] (sp_writes K) := by
  refine TX.f_writes.ok sc_writes (fun vs H Q E h => ?_) (fun cdv A outer s H vs Q E hr h => ?_)
  · obtain ⟨a, t, rfl, _⟩ := h; rfl
  · obtain ⟨a, t, rfl, hS, hz, q⟩ := h
    refine ⟨_, (pss_cons (ps_set (i := 1) sc_writes.nd rfl (.inl rfl) (pe_call (ok_stacks TX) (hr.mono (by decide)) (by rfl) TX.g_stacks TX.f_stacks.kp TX.bd_stacks .nil pass0 (pa_cons (pv 0) pa_nil)))
      (pss_cons (ps_set (i := 2) sc_writes.nd rfl (.inl rfl) (pe_op op_rep (pe_lst (pa_cons pe_int pa_nil)) (pe_callB (id := "len") (k_len (K := K) rfl) (by rfl) TX.b_len (by decide +kernel) (pa_cons (pv 1) pa_nil))))
      (pss_cons (ps_for PassesOwn.never rfl (k_piT (K := K) rfl (pv 1)) (pg_name (i := 3) sc_writes.nd rfl (.inl rfl))
        (pss_cons (ps_asg (pe_ix (k_ixT (K := K) rfl) (pv 3) (pe_un un_neg pe_int) (fun _ _ => rfl)) (pg_tup rfl (pgs_cons (pg_name (i := 4) sc_writes.nd rfl (.inl rfl)) (pgs_cons (pg_name (i := 5) sc_writes.nd rfl (.inl rfl)) pgs_nil))))
        (pss_one (ps_for PassesOwn.never rfl (pi_range2 (by rfl) TX.b_range (pa_cons (pv 4) (pa_cons (pv 5) pa_nil))) (pg_name (i := 6) sc_writes.nd rfl (.inl rfl))
          (pss_one (ps_augS (pv 2) (pv 6) get_list pe_int ip_add set_list))))))
      (pss_one (ps_ret (pe_callTy (T := "tuple") (k_tupOf (K := K) rfl) (by rfl) TX.b_tuple (by decide +kernel) (pa_cons (pv 2) pa_nil))))))), ?_⟩
    refine ⟨.ref a, rfl, a, t, rfl, hS, hz, fun H1 p1 s1 h1 => ?_⟩
    obtain ⟨p1', xs, e, hX, hA⟩ := Dp.tupInv h1
    cases e
    have hl := DpAll.len hA
    rw [dStacks_len] at hl
    refine ⟨sz60 (by simp), fun z nz => ?_⟩
    have s2 : Same H1 (upd H1 z (.lst [.int 0])) := same_upd nz
    refine ⟨.ref p1, rfl, p1, xs, rfl, .inr (Same.tup s2 hX), z, _, _, rfl, rfl, upd_same, by omega, by omega, sz60 (by simp; omega), fun l nl => ?_⟩
    have s3 := same_upd (o := .lst (List.replicate ((xs.length : Int)).toNat [V.int 0]).flatten) nl
    have ec : (List.replicate ((xs.length : Int)).toNat [V.int 0]).flatten = vi (List.replicate t.size 0) := by
      rw [vi_rep, Int.toNat_natCast, hl, List.flatten_replicate_singleton]; rfl
    rw [ec] at s3 ⊢
    have hX3 := Same.tup (s2.trans s3) hX
    have hA3 := DpAll.same (s2.trans s3) hA
    have nl1 : H1 l = none := s2.free nl
    generalize hH3 : upd (upd H1 z (HO.lst [V.int 0])) l (HO.lst (vi (List.replicate t.size 0))) = H3 at s3 hX3 hA3 ⊢
    have hl3 : H3 l = some (.lst (vi (List.replicate t.size 0))) := by rw [← hH3]; exact upd_same
    have s13 : Same H1 H3 := s2.trans s3
    refine ⟨.ref p1, rfl, p1, rfl, ⟨_, hX3⟩, for_tup (K := K) (xs := xs) (fun i σ H' => ∃ y3 y4 y5 y6 c, σ = [some (.ref a), some (.ref p1), some (.ref l), y3, y4, y5, y6] ∧ Same H1 H' ∧ H' l = some (.lst (vi c)) ∧ c.length = t.size ∧ ∀ k, k < t.size → c[k]? = some ((pre t i).wr.getD k 0))
      ⟨none, none, none, none, List.replicate t.size 0, rfl, s13, hl3, by simp, fun k hk => by rw [List.getElem?_replicate, if_pos hk]; rfl⟩ (fun i σ H' _ ⟨_, _, _, _, _, _, h, _⟩ => Same.tup h hX) ?_ ?_⟩
    · rintro i x σ H4 hx ⟨y3, y4, y5, y6, c, rfl, s4, hc, hcl, hcv⟩
      have hi : i < t.size := by rw [← hl]; exact (List.getElem?_eq_some_iff.mp hx).1
      obtain ⟨m, hm⟩ : ∃ m, t.sch[i]? = some m := ⟨_, List.getElem?_eq_getElem (show i < t.sch.length by rw [T.sch_len]; exact hi)⟩
      obtain ⟨f1, f2⟩ := pre_succ hm
      have fs := T.start_le _ _ f2
      rw [pre_size (by omega)] at fs
      obtain ⟨v, g1, g2⟩ := DpAll.get (DpAll.same s4 hA) (dStacks_at hi)
      rw [hx] at g1
      cases g1
      obtain ⟨b, us, rfl, g3, g4⟩ := Dp.tupInv g2
      rw [stk_last hm, List.map_append] at g4
      obtain ⟨us', v', rfl, _, g5⟩ := DpAll.snoc g4
      obtain ⟨b', e5, g6⟩ := Dp.intsInv (ns := [((pre t i).start m : Int), ((i + 1 : Nat) : Int)]) g5
      cases e5
      refine ⟨.ref b, rfl, _, rfl, b, _, -1, _, rfl, rfl, g3, atI_last _ _, b', _, rfl, g6, rfl, _, _, rfl, _, [], rfl, rfl, ?_⟩
      refine ⟨_, rfl, _, rfl, _, _, rfl, ⟨by omega, by omega, by omega, by omega⟩, for_range (lo := ((pre t i).start m : Int)) (n := (((i + 1 : Nat) : Int) - ((pre t i).start m : Int)).toNat)
        (fun j σ H' => ∃ y6 c, σ = [some (.ref a), some (.ref p1), some (.ref l), some (.ref b), some (.int ((pre t i).start m : Int)), some (.int ((i + 1 : Nat) : Int)), y6] ∧ Same H1 H' ∧ H' l = some (.lst (vi c)) ∧ c.length = t.size ∧ ∀ k, k < t.size → c[k]? = some (if (pre t i).start m ≤ k ∧ k < (pre t i).start m + j then (pre t i).wr.getD k 0 + 1 else (pre t i).wr.getD k 0))
        ⟨y6, c, rfl, s4, hc, hcl, fun k hk => by rw [if_neg (by omega)]; exact hcv k hk⟩ ?_ ?_⟩
      · rintro j σ H5 hj ⟨y6, c, rfl, s5, hc, hcl, hcv⟩
        have hj2 : (pre t i).start m + j < t.size := by omega
        have e1 : ((pre t i).start m : Int) + (j : Int) = (((pre t i).start m + j : Nat) : Int) := by omega
        have h6 := hcv _ hj2
        rw [if_neg (by omega)] at h6
        rw [e1]
        refine ⟨.ref l, rfl, _, rfl, l, _, _, _, rfl, rfl, .inl (.inl hc), at_vi h6, _, _, rfl, rfl, l, _, _, _, rfl, rfl, hc, ixN_of (by rw [vi_len]; omega), ?_⟩
        have e2 : (((pre t i).wr.getD ((pre t i).start m + j) 0 : Nat) : Int) + 1 = (((pre t i).wr.getD ((pre t i).start m + j) 0 + 1 : Nat) : Int) := by omega
        refine ⟨_, c.set ((pre t i).start m + j) ((pre t i).wr.getD ((pre t i).start m + j) 0 + 1), rfl, Same.mut s5 nl1, ?_, by rw [List.length_set]; exact hcl, fun k hk => ?_⟩
        · rw [← vi_set, ← e2]; exact upd_same
        · by_cases hk2 : (pre t i).start m + j = k
          · rw [← hk2, List.getElem?_set_self (by omega), if_pos (by omega)]
          · rw [List.getElem?_set_ne hk2, hcv k hk]
            by_cases hk3 : (pre t i).start m ≤ k ∧ k < (pre t i).start m + j
            · rw [if_pos hk3, if_pos (by omega)]
            · rw [if_neg hk3, if_neg (by omega)]
      · rintro σ H5 ⟨y6, c, rfl, s5, hc, hcl, hcv⟩
        refine ⟨_, _, _, y6, c, rfl, s5, hc, hcl, fun k hk => ?_⟩
        rw [hcv k hk, f1, wr_step f2, pre_size (by omega)]
        by_cases hk3 : (pre t i).start m ≤ k ∧ k < i + 1
        · rw [if_pos (by omega), if_pos hk3]
        · rw [if_neg (by omega), if_neg hk3]
    · rintro σ H4 ⟨y3, y4, y5, y6, c, rfl, s4, hc, hcl, hcv⟩
      rw [hl, pre_all] at hcv
      have ecw : c = t.wr := list_by (by rw [hcl, T.wr_len]) fun k hk => hcv k (by omega)
      rw [ecw] at hc
      refine ⟨.ref l, rfl, l, _, rfl, .inl ⟨.inl (.inl hc), fun o no => ?_⟩⟩
      exact q _ o ((s1.trans s4).trans (same_upd no)) (.inl (.inl upd_same))
def sp_run_counts (K : PySem.W.Frag) : Sp := fun vs H Q _ => ∃ (a : Addr) (t : T), vs = [.ref a] ∧ SqT K H a (vi t.sch) ∧ t.size ≤ 60 ∧ ∀ H' p, Same H H' → SqT K H' p (vi t.rc) → Q (.ref p) H'
theorem ok_run_counts (TX : Tx K mg) : FnOk P w K mg base CX0 6 TX.a_run_counts TX.fd_run_counts ["schedule"] (sp_run_counts K) := by
  refine TX.f_run_counts.ok sc_run_counts (fun vs H Q E h => ?_) (fun cdv A outer s H vs Q E hr h => ?_)
  · obtain ⟨a, t, rfl, _⟩ := h; rfl
  · obtain ⟨a, t, rfl, hS, hz, q⟩ := h
    refine ⟨_, (pss_one (ps_ret (pe_callTy (T := "tuple") (k_tupOf (K := K) rfl) (by rfl) TX.b_tuple (by decide +kernel) (pa_cons (pe_lc (own := [("stack", 1)]) (by rfl) sc_run_counts.nd (k_piT (K := K) rfl (pe_call (ok_stacks TX) (hr.mono (by decide)) (by rfl) TX.g_stacks TX.f_stacks.kp TX.bd_stacks .nil pass0 (pa_cons (pv 0) pa_nil))) (blkOk_by (own := [("stack", 1)]) (N := N_run_counts) (sc := defScope s_run_counts) (by decide +kernel)) (fun _ _ _ _ _ => (pg_name (i := 1) sc_run_counts.nd rfl (Or.inl rfl))) (fun _ _ _ _ _ => pts_nil) (fun _ _ _ _ _ => (pe_callB (id := "len") (k_len (K := K) rfl) (by rfl) TX.b_len (by decide +kernel) (pa_cons (pv 1) pa_nil)))) pa_nil)))), ?_⟩
    refine ⟨.ref a, rfl, a, t, rfl, hS, hz, fun H1 p1 s1 h1 => ?_⟩
    obtain ⟨p1', xs, e, hX, hA⟩ := Dp.tupInv h1
    cases e
    have hl := DpAll.len hA
    rw [dStacks_len] at hl
    refine ⟨p1, rfl, ⟨_, hX⟩, fun D nD => lc_all (K := K) walk_tup ((ci t.rc).map PyData.int) (by rw [List.length_map, ci, List.length_map, T.rc_len, hl]) (tf_ints _) (by omega) nD (fun H' s' => Same.tup s' hX) ?_ ?_ (fun x σ' H' Q Q' h => h _ _) (fun σ' H' Q Q' h => h _ _)⟩
    · rintro i x H2 H2' hi s2 ⟨rfl, hx⟩ d hd R hR
      have hi2 : i < t.size := by omega
      obtain ⟨v, g1, g2⟩ := DpAll.get (DpAll.same s2 hA) (dStacks_at hi2)
      rw [hx] at g1
      cases g1
      obtain ⟨b, us, rfl, g3, g4⟩ := Dp.tupInv g2
      have hl4 := DpAll.len g4
      rw [List.length_map, T.stk_len] at hl4
      refine ⟨rfl, rfl, .ref b, rfl, b, us, rfl, .inr g3, hR _ _ (Same.refl _) ?_⟩
      have e := pre_runs hi2
      rw [List.getElem?_map, ci, List.getElem?_map, e] at hd
      cases hd
      rw [hl4]
      exact .int _
    · intro H2 acc s2 ha hAcc
      rw [dp_ints_inv hAcc] at ha
      refine ⟨D, _, rfl, .inl ⟨.inl (.inl ha), fun o no => ?_⟩⟩
      refine q _ o ((s1.trans s2).trans (same_upd no)) (.inl (.inl ?_))
      rw [vi_ci]; exact upd_same
end
def dIt (x : Nat × T × Nat × Int) : PyData := .tuple [.int (x.1 : Int), .int ((x.1 + x.2.1.size : Nat) : Int), .int (x.2.2.1 : Int), .int x.2.2.2]
theorem tf_it (x : Nat × T × Nat × Int) : Tf (dIt x) := .tup (tf_ints [(x.1 : Int), ((x.1 + x.2.1.size : Nat) : Int), (x.2.2.1 : Int), x.2.2.2])
theorem tf_its (L : List (Nat × T × Nat × Int)) : ∀ d, d ∈ L.map dIt → Tf d := fun d h => by
  obtain ⟨x, _, rfl⟩ := List.mem_map.mp h
  exact tf_it x
theorem snoc_cases {α : Type} (L : List α) : L = [] ∨ ∃ M x, L = M ++ [x] := by
  rcases List.eq_nil_or_concat L with h | ⟨M, x, h⟩
  · exact .inl h
  · exact .inr ⟨M, x, by rw [h, List.concat_eq_append]⟩
theorem int_list_by {c d : List Int} (h : ∀ k, k < d.length → c[k]? = d[k]?) (hl : c.length = d.length) : c = d := by
  refine List.ext_getElem? fun k => ?_
  by_cases hk : k < d.length
  · exact h k hk
  · rw [List.getElem?_eq_none (by omega), List.getElem?_eq_none (by omega)]
def TreeInv (K : PySem.W.Frag) (t : T) (H1 : Hp) (a p1 l w : Addr) (m : Nat) (σ : L2.St) (H' : Hp) : Prop :=
  ∃ (y4 y5 y6 y7 y8 y9 : Option V) (WL : List (Nat × T × Nat × Int)) (acc : List V) (c : List Int), σ = [some (.ref a), some (.ref p1), some (.ref l), some (.ref w), y4, y5, y6, y7, y8, y9] ∧ m = todo WL ∧ Same H1 H' ∧ H' l = some (.lst (c.map V.int)) ∧ c.length = t.size ∧ H' w = some (.lst acc) ∧ DpAll K H' acc (WL.map dIt) ∧
    (∀ x, x ∈ WL → Sub t x.1 x.2.1 x.2.2.1 x.2.2.2) ∧ (∀ k, k < t.size → (∀ x, x ∈ WL → ¬ (x.1 ≤ k ∧ k < x.1 + x.2.1.size)) → c[k]? = t.parOf[k]?) ∧ todo WL ≤ 2 * t.size + 1
section
variable {P : Program} {w : World} {K : PySem.W.Frag} {mg : Str → Option Value} {base : Heap}
def sp_tree_of (K : PySem.W.Frag) : Sp := fun vs H Q _ => ∃ (a : Addr) (t : T), vs = [.ref a] ∧ SqT K H a (vi t.sch) ∧ t.size ≤ 60 ∧ ∀ H' p o, Same H H' → H' p = some (.frz o (.tup (t.parOf.map V.int))) → o.dict = none → Q (.ref p) H'
theorem ok_tree_of (TX : Tx K mg) : FnOk P w K mg base CX0 7 TX.a_tree_of TX.fd_tree_of ["schedule"] (sp_tree_of K) := by
  refine TX.f_tree_of.ok sc_tree_of (fun vs H Q E h => ?_) (fun cdv A outer s H vs Q E hr h => ?_)
  · obtain ⟨a, t, rfl, _⟩ := h; rfl
  · obtain ⟨a, t, rfl, hS, hz, q⟩ := h
    refine ⟨_, (pss_cons (ps_set (i := 1) sc_tree_of.nd rfl (.inr rfl) (pe_call (ok_run_counts TX) (hr.mono (by decide)) (by rfl) TX.g_run_counts TX.f_run_counts.kp TX.bd_run_counts .nil pass0 (pa_cons (pv 0) pa_nil)))
      (pss_cons (ps_set (i := 2) sc_tree_of.nd rfl (.inl rfl) (pe_op op_rep (pe_lst (pa_cons (pe_glob (v := .int (-1)) (by rfl) TX.c_NO_PARENT ⟨_, rfl⟩) pa_nil)) (pe_callB (id := "len") (k_len (K := K) rfl) (by rfl) TX.b_len (by decide +kernel) (pa_cons (pv 1) pa_nil))))
      (pss_cons (ps_set (i := 3) sc_tree_of.nd rfl (.inl rfl) (pe_lst (pa_cons (pe_tup (pa_cons pe_int (pa_cons (pe_callB (id := "len") (k_len (K := K) rfl) (by rfl) TX.b_len (by decide +kernel) (pa_cons (pv 1) pa_nil)) (pa_cons pe_int (pa_cons (pe_glob (v := .int (-1)) (by rfl) TX.c_NO_PARENT ⟨_, rfl⟩) pa_nil))))) pa_nil)))
      (pss_cons (ps_while PassesOwn.never (pt_truth (pv 3) (by intro _; rfl))
        (pss_cons (ps_asg (pe_bm0 PySem.F.plainAttrs_list PySem.F.slot_list_pop PySem.F.type_list_pop mt_pop (pv 3)) (pg_tup rfl (pgs_cons (pg_name (i := 4) sc_tree_of.nd rfl (.inl rfl)) (pgs_cons (pg_name (i := 5) sc_tree_of.nd rfl (.inl rfl)) (pgs_cons (pg_name (i := 6) sc_tree_of.nd rfl (.inr rfl)) (pgs_cons (pg_name (i := 7) sc_tree_of.nd rfl (.inl rfl)) pgs_nil))))))
        (pss_cons (ps_if (pt_cmpR op_eq (pv 4) (pv 5) (nomark _))
          (pss_one ps_continue)
          pss_nil)
        (pss_cons (ps_set (i := 8) sc_tree_of.nd rfl (.inl rfl) (pe_callB (id := "max") (cr_max rfl) (by rfl) TX.b_max (by decide +kernel) (pa_cons (pe_lc (own := [("flush", 9)]) (by rfl) sc_tree_of.nd (pi_range2 (by rfl) TX.b_range (pa_cons (pv 4) (pa_cons (pv 5) pa_nil))) (blkOk_by (own := [("flush", 9)]) (N := N_tree_of) (sc := defScope s_tree_of) (by decide +kernel)) (fun _ _ _ _ _ => (pg_name (i := 9) sc_tree_of.nd rfl (Or.inl rfl))) (fun _ _ _ _ _ => (pts_one (pt_cmpR op_eq (pe_ix (k_ixT (K := K) rfl) (pv 1) (pv 9) (fun _ _ => rfl)) (pv 6) (nomark _)))) (fun _ _ _ _ _ => (pv 9))) pa_nil)))
        (pss_cons (ps_asg (pv 7) (pg_sub (pv 2) (pv 8) set_list))
        (pss_cons (ps_expr (pe_bm PySem.F.plainAttrs_list PySem.F.slot_list_append PySem.F.type_list_append mt_append (pv 3) (pa_cons (pe_tup (pa_cons (pv 4) (pa_cons (pv 8) (pa_cons (pv 6) (pa_cons (pv 8) pa_nil))))) pa_nil)))
        (pss_one (ps_expr (pe_bm PySem.F.plainAttrs_list PySem.F.slot_list_append PySem.F.type_list_append mt_append (pv 3) (pa_cons (pe_tup (pa_cons (pe_op op_add (pv 8) pe_int) (pa_cons (pv 5) (pa_cons (pe_op op_add (pv 6) pe_int) (pa_cons (pv 8) pa_nil))))) pa_nil))))))))))
      (pss_one (ps_ret (pe_callTy (T := "tuple") (k_tupOfZ (K := K) rfl) (by rfl) TX.b_tuple (by decide +kernel) (pa_cons (pv 2) pa_nil)))))))), ?_⟩
    refine ⟨.ref a, rfl, a, t, rfl, hS, hz, fun H1 p1 s1 h1 => ?_⟩
    have hl : (vi t.rc).length = t.size := by rw [vi_len, T.rc_len]
    refine ⟨sz60 (by simp), fun z nz => ?_⟩
    have s2 : Same H1 (upd H1 z (.lst [.int (-1)])) := same_upd nz
    refine ⟨.ref p1, rfl, p1, _, rfl, .inr (Same.tup s2 h1), z, _, _, rfl, rfl, upd_same, by omega, by omega, sz60 (by simp; omega), fun l nl => ?_⟩
    have s3 := same_upd (o := .lst (List.replicate (((vi t.rc).length : Int)).toNat [V.int (-1)]).flatten) nl
    have ec : (List.replicate (((vi t.rc).length : Int)).toNat [V.int (-1)]).flatten = (List.replicate t.size (-1 : Int)).map V.int := by
      rw [Int.toNat_natCast, hl, List.flatten_replicate_singleton, List.map_replicate]
    rw [ec] at s3 ⊢
    have nl1 : H1 l = none := s2.free nl
    generalize hH3 : upd (upd H1 z (HO.lst [V.int (-1)])) l (HO.lst ((List.replicate t.size (-1 : Int)).map V.int)) = H3 at s3 ⊢
    have hl3 : H3 l = some (.lst ((List.replicate t.size (-1 : Int)).map V.int)) := by rw [← hH3]; exact upd_same
    have s13 : Same H1 H3 := s2.trans s3
    have h13 := Same.tup s13 h1
    refine ⟨.ref p1, rfl, p1, _, rfl, .inr h13, sz60 (by simp), fun u nu => ⟨sz60 (by simp), fun w nw => ?_⟩⟩
    have s4 := same_upd (o := .tup [.int 0, .int ((vi t.rc).length : Int), .int 1, .int (-1)]) nu
    have s5 := same_upd (o := .lst [.ref u]) nw
    have nw1 : H1 w = none := s13.free (s4.free nw)
    have nwl : w ≠ l := fun e => by
      have := s4.free nw
      rw [e, hl3] at this; cases this
    refine ⟨TreeInv K t H1 a p1 l w, ⟨_, none, none, none, none, none, none, [(0, t, 1, -1)], [.ref u], List.replicate t.size (-1 : Int), rfl, rfl, (s13.trans s4).trans s5, s5 _ _ (s4 _ _ hl3), by simp, upd_same, ?_, ?_, ?_, ?_⟩, ?_⟩
    · refine .cons (.tup (Same.tup s5 (.inl (.inl upd_same))) ?_) .nil
      rw [hl]
      have := dp_ints (K := K) (H := upd (upd H3 u (.tup [.int 0, .int (t.size : Int), .int 1, .int (-1)])) w (.lst [.ref u])) [0, (t.size : Int), 1, -1]
      simpa using this
    · intro x hx
      have e : x = (0, t, 1, -1) := by simpa using hx
      rw [e]; exact .root
    · intro k hk h
      exact absurd ⟨Nat.zero_le _, by simpa using hk⟩ (h (0, t, 1, -1) (by simp))
    · simp [todo]
    · rintro m σ H4 ⟨y4, y5, y6, y7, y8, y9, WL, acc, c, rfl, rfl, sm, hc, hcl, hw, hA, hSub, hDone, hlen⟩
      refine ⟨.ref w, rfl, _, .inl ⟨acc, .inl (.inl hw), rfl⟩, ?_⟩
      rcases snoc_cases WL with rfl | ⟨WL, x, rfl⟩
      · -- the end
        cases hA
        refine iteF ?_
        have e : c = t.parOf := int_list_by (fun k hk => hDone k (by rw [T.parOf, T.par_len] at hk; exact hk) (fun x hx => by cases hx)) (by rw [hcl, T.parOf, T.par_len])
        rw [e] at hc
        refine ⟨.ref l, rfl, l, _, rfl, .inl (.inl hc), fun o ob no hd => ?_⟩
        exact q _ o ob ((s1.trans sm).trans (same_upd no)) upd_same hd
      · rw [List.map_append] at hA
        obtain ⟨us, v, rfl, hA1, hv⟩ := DpAll.snoc hA
        have hus := DpAll.len hA1
        rw [List.length_map] at hus
        obtain ⟨off, sb, k, p⟩ := x
        have hsub : Sub t off sb k p := hSub (off, sb, k, p) (by simp)
        have hsl := sub_le hsub
        obtain ⟨b, e, hb⟩ := Dp.intsInv (ns := [(off : Int), ((off + sb.size : Nat) : Int), (k : Int), p]) hv
        cases e
        have ne : (!(us ++ [V.ref b]).isEmpty) = true := by simp
        rw [ne]
        refine iteT ⟨fun σ' H' => ∃ m', m' < todo (WL ++ [(off, sb, k, p)]) ∧ TreeInv K t H1 a p1 l w m' σ' H', fun σ' H' h => h, ?_⟩
        have kp : Keep K H4 (upd H4 w (.lst us)) := But.keep But.upd hw
        have hdl : (us ++ [V.ref b]).dropLast = us := by simp
        refine ⟨.ref w, rfl, .inl ⟨rfl, _, .inl (.inl hw)⟩, w, _, .ref b, rfl, rfl, hw, by simp, ?_⟩
        rw [hdl]
        have sm5 : Same H1 (upd H4 w (.lst us)) := Same.mut sm nw1
        have hc5 : (upd H4 w (.lst us)) l = some (.lst (c.map V.int)) := by rw [upd_ne nwl.symm]; exact hc
        have hA5 := DpAll.keep kp (tf_its WL) hA1
        have hb5 := kp _ _ hb
        generalize hH5 : upd H4 w (.lst us) = H5 at kp sm5 hc5 hA5 hb5 ⊢
        have hw5 : H5 w = some (.lst us) := by rw [← hH5]; exact upd_same
        refine ⟨b, _, rfl, hb5, rfl, _, _, rfl, _, _, rfl, _, _, rfl, _, [], rfl, rfl, ?_⟩
        refine ⟨_, rfl, _, rfl, rfl, _, rfl, ite2 (fun e => ?_) (fun e => ?_)⟩
        · -- an empty interval
          have e0 : (off : Int) = ((off + sb.size : Nat) : Int) := V.int.inj (of_decide_eq_true e)
          have es : sb.size = 0 := by omega
          refine ⟨todo WL, by rw [todo_app]; simp [todo], _, _, _, _, _, _, WL, us, c, rfl, rfl, sm5, hc5, hcl, hw5, hA5, fun x hx => hSub x (List.mem_append_left _ hx), fun j hj h => hDone j hj fun x hx => ?_, ?_⟩
          · rcases List.mem_append.mp hx with hx | hx
            · exact h x hx
            · have e : x = (off, sb, k, p) := by simpa using hx
              rw [e]; show ¬ (off ≤ j ∧ j < off + sb.size); omega
          · rw [todo_app] at hlen; simp [todo] at hlen; omega
        · have es : sb.size ≠ 0 := fun z => e (decide_eq_true (by rw [z]; rfl))
          cases sb with
          | nil => exact absurd rfl es
          | node lf rt =>
            have hsz : (T.node lf rt).size = lf.size + 1 + rt.size := rfl
            have nn : (((off + (T.node lf rt).size : Nat) : Int) - (off : Int)).toNat = (T.node lf rt).size := by omega
            -- root = max([..])
            refine ⟨_, rfl, _, rfl, _, _, rfl, ⟨by omega, by omega, by omega, by omega⟩, fun D nD => ?_⟩
            rw [nn]
            refine lc_fil (lo := (off : Int)) (j := 9) (fun i => decide (V.int ((t.rc.getD (off + i) 0 : Nat) : Int) = V.int (k : Int))) (by omega) nD (fun x => rfl) (fun x => rfl) (fun i H6 Q6 hi s6 q6 => ?_) (fun H6 s6 hD6 => ?_)
            · have ea : (t.rc)[off + i]? = some (t.rc.getD (off + i) 0) := by
                rw [List.getD_eq_getElem?_getD, List.getElem?_eq_getElem (by rw [T.rc_len]; omega)]; rfl
              have ei : (off : Int) + (i : Nat) = ((off + i : Nat) : Int) := by omega
              rw [ei]
              exact ⟨.ref p1, rfl, _, rfl, p1, _, _, _, rfl, rfl, Same.tup (sm5.trans s6) h1, at_vi ea, _, rfl, rfl, _, rfl, q6⟩
            · have em : ((List.range (T.node lf rt).size).filter fun i => decide (V.int ((t.rc.getD (off + i) 0 : Nat) : Int) = V.int (k : Int))).map (fun (i : Nat) => V.int ((off : Int) + (i : Nat))) = (((List.range (T.node lf rt).size).filter fun i => decide (V.int ((t.rc.getD (off + i) 0 : Nat) : Int) = V.int (k : Int))).map (fun (i : Nat) => (off : Int) + (i : Nat))).map V.int := by rw [List.map_map]; rfl
              rw [em] at hD6
              have fT : ∀ i, i < (T.node lf rt).size → (decide (V.int ((t.rc.getD (off + i) 0 : Nat) : Int) = V.int (k : Int)) = true ↔ (T.node lf rt).rc[i]? = some 1) := fun i hi => by
                obtain ⟨v, hv1, hv2⟩ := sub_rc_at hsub hi
                have hv3 := rc_pos _ _ _ hv1
                rw [List.getD_eq_getElem?_getD, hv2, decide_eq_true_iff]
                constructor
                · intro h
                  have h2 := V.int.inj h
                  simp only [Option.getD_some] at h2
                  rw [hv1]; congr 1; omega
                · intro h
                  rw [hv1] at h
                  cases h
                  simp only [Option.getD_some]
                  congr 1
                  omega
              have hroot : (off : Int) + (lf.size : Nat) ∈ ((List.range (T.node lf rt).size).filter fun i => decide (V.int ((t.rc.getD (off + i) 0 : Nat) : Int) = V.int (k : Int))).map (fun (i : Nat) => (off : Int) + (i : Nat)) :=
                List.mem_map.mpr ⟨lf.size, List.mem_filter.mpr ⟨List.mem_range.mpr (by omega), (fT _ (by omega)).mpr (rc_root lf rt)⟩, rfl⟩
              refine ⟨D, _, rfl, .inl (.inl hD6), List.length_pos_of_mem hroot, fun mx hmx hle => ?_⟩
              have emx : mx = ((off + lf.size : Nat) : Int) := by
                obtain ⟨i, hi, rfl⟩ := List.mem_map.mp hmx
                obtain ⟨hi1, hi2⟩ := List.mem_filter.mp hi
                have hi3 := rc_one ((fT i (List.mem_range.mp hi1)).mp hi2)
                have := hle _ hroot
                omega
              subst emx
              have hc6 := s6 _ _ hc5
              have hw6 := s6 _ _ hw5
              have hA6 := DpAll.same s6 hA5
              have sm6 := sm5.trans s6
              -- parents[root] = parent
              refine ⟨_, rfl, .ref l, rfl, _, rfl, l, _, _, off + lf.size, rfl, rfl, hc6, ixN_of (by rw [List.length_map, hcl]; omega), ?_⟩
              have ecs : ((c.map V.int).set (off + lf.size) (V.int p)) = (c.set (off + lf.size) p).map V.int := by rw [List.map_set]
              rw [ecs]
              have kp7 : Keep K H6 (upd H6 l (.lst ((c.set (off + lf.size) p).map V.int))) := But.keep But.upd hc6
              have sm7 : Same H1 (upd H6 l (.lst ((c.set (off + lf.size) p).map V.int))) := Same.mut sm6 nl1
              have hA7 := DpAll.keep kp7 (tf_its WL) hA6
              have hw7 : (upd H6 l (.lst ((c.set (off + lf.size) p).map V.int))) w = some (.lst us) := by rw [upd_ne nwl]; exact hw6
              generalize hH7 : upd H6 l (.lst ((c.set (off + lf.size) p).map V.int)) = H7 at kp7 sm7 hA7 hw7 ⊢
              have hc7 : H7 l = some (.lst ((c.set (off + lf.size) p).map V.int)) := by rw [← hH7]; exact upd_same
              have hlw : WL.length ≤ 300 := by
                have := len_todo WL
                rw [todo_app] at hlen; omega
              -- the left subtree
              refine ⟨.ref w, rfl, .inl ⟨rfl, _, .inl (.inl hw7)⟩, _, rfl, _, rfl, _, rfl, _, rfl, sz60 (by simp), fun u1 nu1 => ?_⟩
              have s8 := same_upd (o := .tup [V.int (off : Int), V.int ((off + lf.size : Nat) : Int), V.int (k : Int), V.int ((off + lf.size : Nat) : Int)]) nu1
              have hw8 := s8 _ _ hw7
              refine ⟨w, _, _, rfl, rfl, hw8, sz61 (by omega), ?_⟩
              have hu8 : Dp K (upd H7 u1 (.tup [V.int (off : Int), V.int ((off + lf.size : Nat) : Int), V.int (k : Int), V.int ((off + lf.size : Nat) : Int)])) (.ref u1) (dIt (off, lf, k, ((off + lf.size : Nat) : Int))) :=
                .tup (.inl (.inl upd_same)) (dp_ints [(off : Int), ((off + lf.size : Nat) : Int), (k : Int), ((off + lf.size : Nat) : Int)])
              have hA8 : DpAll K (upd H7 u1 (.tup [V.int (off : Int), V.int ((off + lf.size : Nat) : Int), V.int (k : Int), V.int ((off + lf.size : Nat) : Int)])) (us ++ [.ref u1]) ((WL ++ [(off, lf, k, ((off + lf.size : Nat) : Int))]).map dIt) := by
                rw [List.map_append]; exact DpAll.append (DpAll.same s8 hA7) (.cons hu8 .nil)
              have hc8 := s8 _ _ hc7
              have sm8 := sm7.trans s8
              generalize upd H7 u1 (.tup [V.int (off : Int), V.int ((off + lf.size : Nat) : Int), V.int (k : Int), V.int ((off + lf.size : Nat) : Int)]) = H8 at s8 hw8 hA8 hc8 sm8 ⊢
              have kp9 : Keep K H8 (upd H8 w (.lst (us ++ [.ref u1]))) := But.keep But.upd hw8
              have sm9 : Same H1 (upd H8 w (.lst (us ++ [.ref u1]))) := Same.mut sm8 nw1
              have hA9 := DpAll.keep kp9 (tf_its _) hA8
              have hc9 : (upd H8 w (.lst (us ++ [.ref u1]))) l = some (.lst ((c.set (off + lf.size) p).map V.int)) := by rw [upd_ne nwl.symm]; exact hc8
              have hw9 : (upd H8 w (.lst (us ++ [.ref u1]))) w = some (.lst (us ++ [.ref u1])) := upd_same
              generalize upd H8 w (.lst (us ++ [.ref u1])) = H9 at kp9 sm9 hA9 hc9 hw9 ⊢
              -- the right subtree
              refine ⟨.ref w, rfl, .inl ⟨rfl, _, .inl (.inl hw9)⟩, _, rfl, _, _, rfl, rfl, _, rfl, _, rfl, _, _, rfl, rfl, _, rfl, sz60 (by simp), fun u2 nu2 => ?_⟩
              have s10 := same_upd (o := .tup [V.int (((off + lf.size : Nat) : Int) + 1), V.int ((off + (T.node lf rt).size : Nat) : Int), V.int ((k : Int) + 1), V.int ((off + lf.size : Nat) : Int)]) nu2
              have hw10 := s10 _ _ hw9
              refine ⟨w, _, _, rfl, rfl, hw10, sz61 (by simp; omega), ?_⟩
              have hu10 : Dp K (upd H9 u2 (.tup [V.int (((off + lf.size : Nat) : Int) + 1), V.int ((off + (T.node lf rt).size : Nat) : Int), V.int ((k : Int) + 1), V.int ((off + lf.size : Nat) : Int)])) (.ref u2) (dIt (off + lf.size + 1, rt, k + 1, ((off + lf.size : Nat) : Int))) := by
                refine .tup (.inl (.inl upd_same)) ?_
                have := dp_ints (K := K) (H := upd H9 u2 (.tup [V.int (((off + lf.size : Nat) : Int) + 1), V.int ((off + (T.node lf rt).size : Nat) : Int), V.int ((k : Int) + 1), V.int ((off + lf.size : Nat) : Int)])) [((off + lf.size : Nat) : Int) + 1, ((off + (T.node lf rt).size : Nat) : Int), (k : Int) + 1, ((off + lf.size : Nat) : Int)]
                have e1 : ((off + lf.size : Nat) : Int) + 1 = ((off + lf.size + 1 : Nat) : Int) := by omega
                have e2 : off + (T.node lf rt).size = off + lf.size + 1 + rt.size := by rw [hsz]; omega
                rw [e1, e2] at this ⊢
                exact this
              have hA10 : DpAll K (upd H9 u2 (.tup [V.int (((off + lf.size : Nat) : Int) + 1), V.int ((off + (T.node lf rt).size : Nat) : Int), V.int ((k : Int) + 1), V.int ((off + lf.size : Nat) : Int)])) ((us ++ [.ref u1]) ++ [.ref u2]) (((WL ++ [(off, lf, k, ((off + lf.size : Nat) : Int))]) ++ [(off + lf.size + 1, rt, k + 1, ((off + lf.size : Nat) : Int))]).map dIt) := by
                rw [List.map_append]; exact DpAll.append (DpAll.same s10 hA9) (.cons hu10 .nil)
              have hc10 := s10 _ _ hc9
              have sm10 := sm9.trans s10
              generalize upd H9 u2 (.tup [V.int (((off + lf.size : Nat) : Int) + 1), V.int ((off + (T.node lf rt).size : Nat) : Int), V.int ((k : Int) + 1), V.int ((off + lf.size : Nat) : Int)]) = H10 at s10 hw10 hA10 hc10 sm10 ⊢
              have kp11 : Keep K H10 (upd H10 w (.lst ((us ++ [.ref u1]) ++ [.ref u2]))) := But.keep But.upd hw10
              refine ⟨_, ?_, _, _, _, _, _, _, (WL ++ [(off, lf, k, ((off + lf.size : Nat) : Int))]) ++ [(off + lf.size + 1, rt, k + 1, ((off + lf.size : Nat) : Int))], (us ++ [.ref u1]) ++ [.ref u2], c.set (off + lf.size) p, rfl, rfl, Same.mut sm10 nw1, ?_, by rw [List.length_set]; exact hcl, upd_same, DpAll.keep kp11 (tf_its _) hA10, fun x hx => ?_, fun j hj h => ?_, ?_⟩
              · simp only [todo_app, todo, hsz]; omega
              · rw [upd_ne nwl.symm]; exact hc10
              · rcases List.mem_append.mp hx with hx | hx
                · rcases List.mem_append.mp hx with hx | hx
                  · exact hSub x (List.mem_append_left _ hx)
                  · have e : x = (off, lf, k, ((off + lf.size : Nat) : Int)) := by simpa using hx
                    rw [e]; exact .left hsub
                · have e : x = (off + lf.size + 1, rt, k + 1, ((off + lf.size : Nat) : Int)) := by simpa using hx
                  rw [e]; exact .right hsub
              · by_cases ej : off + lf.size = j
                · rw [← ej, List.getElem?_set_self (by omega), sub_root hsub]
                · rw [List.getElem?_set_ne ej]
                  refine hDone j hj fun x hx => ?_
                  rcases List.mem_append.mp hx with hx | hx
                  · exact h x (List.mem_append_left _ (List.mem_append_left _ hx))
                  · have e : x = (off, T.node lf rt, k, p) := by simpa using hx
                    rw [e]
                    show ¬ (off ≤ j ∧ j < off + (T.node lf rt).size)
                    have a1 : ¬ (off ≤ j ∧ j < off + lf.size) := h (off, lf, k, ((off + lf.size : Nat) : Int)) (by simp)
                    have a2 : ¬ (off + lf.size + 1 ≤ j ∧ j < off + lf.size + 1 + rt.size) := h (off + lf.size + 1, rt, k + 1, ((off + lf.size : Nat) : Int)) (by simp)
                    omega
              · simp only [todo_app, todo, hsz] at hlen ⊢; omega
end
def dI3 (x : Nat × T × Nat × Int) : PyData := .tuple [.int (x.1 : Int), .int ((x.1 + x.2.1.size : Nat) : Int), .int x.2.2.2]
theorem tf_i3 (L : List (Nat × T × Nat × Int)) : ∀ d, d ∈ L.map dI3 → Tf d := fun d h => by
  obtain ⟨x, _, rfl⟩ := List.mem_map.mp h
  exact .tup (tf_ints [(x.1 : Int), ((x.1 + x.2.1.size : Nat) : Int), x.2.2.2])
def NumInv (K : PySem.W.Frag) (t : T) (H1 : Hp) (a w : Addr) (m : Nat) (σ : L2.St) (H' : Hp) : Prop :=
  ∃ (y2 y3 y4 y5 y6 y7 : Option V) (WL : List (Nat × T × Nat × Int)) (acc : List V), σ = [some (.ref a), some (.ref w), y2, y3, y4, y5, y6, y7] ∧ m = todo WL ∧ Same H1 H' ∧ H' w = some (.lst acc) ∧ DpAll K H' acc (WL.map dI3) ∧
    (∀ x, x ∈ WL → Sub t x.1 x.2.1 x.2.2.1 x.2.2.2) ∧ todo WL ≤ 2 * t.size + 1
theorem parOf_len (t : T) : t.parOf.length = t.size := T.par_len t 0 (-1)
section
variable {P : Program} {w : World} {K : PySem.W.Frag} {mg : Str → Option Value} {base : Heap}
def sp_is_numbered_in_order (K : PySem.W.Frag) : Sp := fun vs H Q _ => ∃ (a : Addr) (t : T), vs = [.ref a] ∧ SqT K H a (t.parOf.map V.int) ∧ t.size ≤ 60 ∧ ∀ H', Same H H' → Q (.bl true) H'
theorem ok_is_numbered_in_order (TX : Tx K mg) : FnOk P w K mg base CX0 1 TX.a_is_numbered_in_order TX.fd_is_numbered_in_order ["parents"] (sp_is_numbered_in_order K) := by
  refine TX.f_is_numbered_in_order.ok sc_is_numbered_in_order (fun vs H Q E h => ?_) (fun cdv A outer s H vs Q E hr h => ?_)
  · obtain ⟨a, t, rfl, _⟩ := h; rfl
  · obtain ⟨a, t, rfl, hS, hz, q⟩ := h
    refine ⟨_, (pss_cons (ps_set (i := 1) sc_is_numbered_in_order.nd rfl (.inl rfl) (pe_lst (pa_cons (pe_tup (pa_cons pe_int (pa_cons (pe_callB (id := "len") (k_len (K := K) rfl) (by rfl) TX.b_len (by decide +kernel) (pa_cons (pv 0) pa_nil)) (pa_cons (pe_glob (v := .int (-1)) (by rfl) TX.c_NO_PARENT ⟨_, rfl⟩) pa_nil)))) pa_nil)))
      (pss_cons (ps_while PassesOwn.never (pt_truth (pv 1) (by intro _; rfl))
        (pss_cons (ps_asg (pe_bm0 PySem.F.plainAttrs_list PySem.F.slot_list_pop PySem.F.type_list_pop mt_pop (pv 1)) (pg_tup rfl (pgs_cons (pg_name (i := 2) sc_is_numbered_in_order.nd rfl (.inl rfl)) (pgs_cons (pg_name (i := 3) sc_is_numbered_in_order.nd rfl (.inl rfl)) (pgs_cons (pg_name (i := 4) sc_is_numbered_in_order.nd rfl (.inr rfl)) pgs_nil)))))
        (pss_cons (ps_if (pt_cmpR op_eq (pv 2) (pv 3) (nomark _))
          (pss_one ps_continue)
          pss_nil)
        (pss_cons (ps_setLc (i := 5) (own := [("node", 7)]) (by rfl) sc_is_numbered_in_order.nd rfl rfl (sw_true rfl rfl rfl (by decide +kernel)) (pi_range2 (by rfl) TX.b_range (pa_cons (pv 2) (pa_cons (pv 3) pa_nil))) (blkOk_by (own := [("node", 7)]) (N := N_is_numbered_in_order) (sc := defScope s_is_numbered_in_order) (by decide +kernel)) (fun _ _ _ _ _ => (pg_name (i := 7) sc_is_numbered_in_order.nd rfl (Or.inl rfl))) (fun _ _ _ _ _ => (pts_one (pt_cmpR op_eq (pe_ix (k_ixT (K := K) rfl) (pv 0) (pv 7) (fun _ _ => rfl)) (pv 4) (nomark _)))) (fun _ _ _ _ _ => (pv 7)))
        (pss_cons (ps_if (pt_cmpR op_ne (pe_callB (id := "len") (k_len (K := K) rfl) (by rfl) TX.b_len (by decide +kernel) (pa_cons (pv 5) pa_nil)) pe_int (nomark _))
          (pss_one (ps_ret pe_bl))
          pss_nil)
        (pss_cons (ps_set (i := 6) sc_is_numbered_in_order.nd rfl (.inl rfl) (pe_ix (k_ixL (K := K) rfl) (pv 5) pe_int (fun _ _ => rfl)))
        (pss_cons (ps_expr (pe_bm PySem.F.plainAttrs_list PySem.F.slot_list_append PySem.F.type_list_append mt_append (pv 1) (pa_cons (pe_tup (pa_cons (pv 2) (pa_cons (pv 6) (pa_cons (pv 6) pa_nil)))) pa_nil)))
        (pss_one (ps_expr (pe_bm PySem.F.plainAttrs_list PySem.F.slot_list_append PySem.F.type_list_append mt_append (pv 1) (pa_cons (pe_tup (pa_cons (pe_op op_add (pv 6) pe_int) (pa_cons (pv 3) (pa_cons (pv 6) pa_nil)))) pa_nil)))))))))))
      (pss_one (ps_ret pe_bl)))), ?_⟩
    have hl : (t.parOf.map V.int).length = t.size := by rw [List.length_map, parOf_len]
    refine ⟨.ref a, rfl, a, _, rfl, .inr hS, sz60 (by simp), fun u nu => ⟨sz60 (by simp), fun w nw => ?_⟩⟩
    have s4 := same_upd (o := .tup [.int 0, .int ((t.parOf.map V.int).length : Int), .int (-1)]) nu
    have s5 := same_upd (o := .lst [.ref u]) nw
    have nw1 : H w = none := s4.free nw
    refine ⟨NumInv K t H a w, ⟨_, none, none, none, none, none, none, [(0, t, 1, -1)], [.ref u], rfl, rfl, s4.trans s5, upd_same, ?_, ?_, ?_⟩, ?_⟩
    · refine .cons (.tup (Same.tup s5 (.inl (.inl upd_same))) ?_) .nil
      rw [hl]
      have := dp_ints (K := K) (H := upd (upd H u (.tup [.int 0, .int (t.size : Int), .int (-1)])) w (.lst [.ref u])) [0, (t.size : Int), -1]
      simpa using this
    · intro x hx
      have e : x = (0, t, 1, -1) := by simpa using hx
      rw [e]; exact .root
    · simp [todo]
    · rintro m σ H4 ⟨y2, y3, y4, y5, y6, y7, WL, acc, rfl, rfl, sm, hw, hA, hSub, hlen⟩
      refine ⟨.ref w, rfl, _, .inl ⟨acc, .inl (.inl hw), rfl⟩, ?_⟩
      rcases snoc_cases WL with rfl | ⟨WL, x, rfl⟩
      · cases hA
        exact iteF (q _ sm)
      · rw [List.map_append] at hA
        obtain ⟨us, v, rfl, hA1, hv⟩ := DpAll.snoc hA
        have hus := DpAll.len hA1
        rw [List.length_map] at hus
        obtain ⟨off, sb, k, p⟩ := x
        have hsub : Sub t off sb k p := hSub (off, sb, k, p) (by simp)
        have hsl := sub_le hsub
        obtain ⟨b, e, hb⟩ := Dp.intsInv (ns := [(off : Int), ((off + sb.size : Nat) : Int), p]) hv
        cases e
        have ne : (!(us ++ [V.ref b]).isEmpty) = true := by simp
        rw [ne]
        refine iteT ⟨fun σ' H' => ∃ m', m' < todo (WL ++ [(off, sb, k, p)]) ∧ NumInv K t H a w m' σ' H', fun σ' H' h => h, ?_⟩
        have kp : Keep K H4 (upd H4 w (.lst us)) := But.keep But.upd hw
        have hdl : (us ++ [V.ref b]).dropLast = us := by simp
        refine ⟨.ref w, rfl, .inl ⟨rfl, _, .inl (.inl hw)⟩, w, _, .ref b, rfl, rfl, hw, by simp, ?_⟩
        rw [hdl]
        have sm5 : Same H (upd H4 w (.lst us)) := Same.mut sm nw1
        have hA5 := DpAll.keep kp (tf_i3 WL) hA1
        have hb5 := kp _ _ hb
        generalize hH5 : upd H4 w (.lst us) = H5 at kp sm5 hA5 hb5 ⊢
        have hw5 : H5 w = some (.lst us) := by rw [← hH5]; exact upd_same
        refine ⟨b, _, rfl, hb5, rfl, _, _, rfl, _, _, rfl, _, [], rfl, rfl, ?_⟩
        refine ⟨_, rfl, _, rfl, rfl, _, rfl, ite2 (fun e => ?_) (fun e => ?_)⟩
        · have e0 : (off : Int) = ((off + sb.size : Nat) : Int) := V.int.inj (of_decide_eq_true e)
          refine ⟨todo WL, by rw [todo_app]; simp [todo], _, _, _, _, _, _, WL, us, rfl, rfl, sm5, hw5, hA5, fun x hx => hSub x (List.mem_append_left _ hx), ?_⟩
          rw [todo_app] at hlen; omega
        · have es : sb.size ≠ 0 := fun z => e (decide_eq_true (by rw [z]; rfl))
          cases sb with
          | nil => exact absurd rfl es
          | node lf rt =>
            have hsz : (T.node lf rt).size = lf.size + 1 + rt.size := rfl
            have nn : (((off + (T.node lf rt).size : Nat) : Int) - (off : Int)).toNat = (T.node lf rt).size := by omega
            refine ⟨_, rfl, _, rfl, _, _, rfl, ⟨by omega, by omega, by omega, by omega⟩, fun D nD => ?_⟩
            rw [nn]
            refine lc_fil (lo := (off : Int)) (j := 7) (fun i => decide (V.int (t.parOf.getD (off + i) 0) = V.int p)) (by omega) nD (fun x => rfl) (fun x => rfl) (fun i H6 Q6 hi s6 q6 => ?_) (fun H6 s6 hD6 => ?_)
            · have ea : (t.parOf.map V.int)[off + i]? = some (V.int (t.parOf.getD (off + i) 0)) := by
                rw [List.getElem?_map, List.getD_eq_getElem?_getD, List.getElem?_eq_getElem (by rw [parOf_len]; omega)]; rfl
              have ei : (off : Int) + (i : Nat) = ((off + i : Nat) : Int) := by omega
              rw [ei]
              exact ⟨.ref a, rfl, _, rfl, a, _, _, _, rfl, rfl, Same.tup (sm5.trans s6) hS, atI_nat ea, _, rfl, rfl, _, rfl, q6⟩
            · have hout := sub_out hsub
              have ef : (List.range (T.node lf rt).size).filter (fun i => decide (V.int (t.parOf.getD (off + i) 0) = V.int p)) = [lf.size] := by
                refine filter_one (by omega) ?_ fun i hi hf => ?_
                · rw [List.getD_eq_getElem?_getD, sub_root hsub]; exact decide_eq_true rfl
                · obtain ⟨qq, hq1, hq2⟩ := sub_par_at hsub hi
                  rw [List.getD_eq_getElem?_getD, hq2] at hf
                  have hf2 : qq = p := V.int.inj (of_decide_eq_true hf)
                  rcases par_in _ _ _ _ _ hq1 with ⟨l', r', e1, e2, _⟩ | ⟨h1, h2, _⟩
                  · cases e1; exact e2
                  · exfalso; rw [hf2] at h1 h2; omega
              rw [ef] at hD6
              have hD6' : H6 D = some (.lst [V.int ((off : Int) + (lf.size : Nat))]) := hD6
              refine ⟨.ref D, rfl, D, _, rfl, .inl (.inl (.inl hD6')), rfl, _, rfl, iteF ?_⟩
              refine ⟨.ref D, rfl, D, _, 0, _, rfl, rfl, .inl (.inl hD6'), rfl, ?_⟩
              have er : (off : Int) + (lf.size : Nat) = ((off + lf.size : Nat) : Int) := by omega
              rw [er]
              have hw7 := s6 _ _ hw5
              have hA7 := DpAll.same s6 hA5
              have sm7 := sm5.trans s6
              have hlw : WL.length ≤ 300 := by
                have := len_todo WL
                rw [todo_app] at hlen; omega
              -- the left subtree
              refine ⟨.ref w, rfl, .inl ⟨rfl, _, .inl (.inl hw7)⟩, _, rfl, _, rfl, _, rfl, sz60 (by simp), fun u1 nu1 => ?_⟩
              have s8 := same_upd (o := .tup [V.int (off : Int), V.int ((off + lf.size : Nat) : Int), V.int ((off + lf.size : Nat) : Int)]) nu1
              have hw8 := s8 _ _ hw7
              refine ⟨w, _, _, rfl, rfl, hw8, sz61 (by omega), ?_⟩
              have hu8 : Dp K (upd H6 u1 (.tup [V.int (off : Int), V.int ((off + lf.size : Nat) : Int), V.int ((off + lf.size : Nat) : Int)])) (.ref u1) (dI3 (off, lf, k, ((off + lf.size : Nat) : Int))) :=
                .tup (.inl (.inl upd_same)) (dp_ints [(off : Int), ((off + lf.size : Nat) : Int), ((off + lf.size : Nat) : Int)])
              have hA8 : DpAll K (upd H6 u1 (.tup [V.int (off : Int), V.int ((off + lf.size : Nat) : Int), V.int ((off + lf.size : Nat) : Int)])) (us ++ [.ref u1]) ((WL ++ [(off, lf, k, ((off + lf.size : Nat) : Int))]).map dI3) := by
                rw [List.map_append]; exact DpAll.append (DpAll.same s8 hA7) (.cons hu8 .nil)
              have sm8 := sm7.trans s8
              generalize upd H6 u1 (.tup [V.int (off : Int), V.int ((off + lf.size : Nat) : Int), V.int ((off + lf.size : Nat) : Int)]) = H8 at s8 hw8 hA8 sm8 ⊢
              have kp9 : Keep K H8 (upd H8 w (.lst (us ++ [.ref u1]))) := But.keep But.upd hw8
              have sm9 : Same H (upd H8 w (.lst (us ++ [.ref u1]))) := Same.mut sm8 nw1
              have hA9 := DpAll.keep kp9 (tf_i3 _) hA8
              have hw9 : (upd H8 w (.lst (us ++ [.ref u1]))) w = some (.lst (us ++ [.ref u1])) := upd_same
              generalize upd H8 w (.lst (us ++ [.ref u1])) = H9 at kp9 sm9 hA9 hw9 ⊢
              -- the right subtree
              refine ⟨.ref w, rfl, .inl ⟨rfl, _, .inl (.inl hw9)⟩, _, rfl, _, _, rfl, rfl, _, rfl, _, rfl, sz60 (by simp), fun u2 nu2 => ?_⟩
              have s10 := same_upd (o := .tup [V.int (((off + lf.size : Nat) : Int) + 1), V.int ((off + (T.node lf rt).size : Nat) : Int), V.int ((off + lf.size : Nat) : Int)]) nu2
              have hw10 := s10 _ _ hw9
              refine ⟨w, _, _, rfl, rfl, hw10, sz61 (by simp; omega), ?_⟩
              have hu10 : Dp K (upd H9 u2 (.tup [V.int (((off + lf.size : Nat) : Int) + 1), V.int ((off + (T.node lf rt).size : Nat) : Int), V.int ((off + lf.size : Nat) : Int)])) (.ref u2) (dI3 (off + lf.size + 1, rt, k + 1, ((off + lf.size : Nat) : Int))) := by
                refine .tup (.inl (.inl upd_same)) ?_
                have := dp_ints (K := K) (H := upd H9 u2 (.tup [V.int (((off + lf.size : Nat) : Int) + 1), V.int ((off + (T.node lf rt).size : Nat) : Int), V.int ((off + lf.size : Nat) : Int)])) [((off + lf.size : Nat) : Int) + 1, ((off + (T.node lf rt).size : Nat) : Int), ((off + lf.size : Nat) : Int)]
                have e1 : ((off + lf.size : Nat) : Int) + 1 = ((off + lf.size + 1 : Nat) : Int) := by omega
                have e2 : off + (T.node lf rt).size = off + lf.size + 1 + rt.size := by rw [hsz]; omega
                rw [e1, e2] at this ⊢
                exact this
              have hA10 : DpAll K (upd H9 u2 (.tup [V.int (((off + lf.size : Nat) : Int) + 1), V.int ((off + (T.node lf rt).size : Nat) : Int), V.int ((off + lf.size : Nat) : Int)])) ((us ++ [.ref u1]) ++ [.ref u2]) (((WL ++ [(off, lf, k, ((off + lf.size : Nat) : Int))]) ++ [(off + lf.size + 1, rt, k + 1, ((off + lf.size : Nat) : Int))]).map dI3) := by
                rw [List.map_append]; exact DpAll.append (DpAll.same s10 hA9) (.cons hu10 .nil)
              have sm10 := sm9.trans s10
              generalize upd H9 u2 (.tup [V.int (((off + lf.size : Nat) : Int) + 1), V.int ((off + (T.node lf rt).size : Nat) : Int), V.int ((off + lf.size : Nat) : Int)]) = H10 at s10 hw10 hA10 sm10 ⊢
              have kp11 : Keep K H10 (upd H10 w (.lst ((us ++ [.ref u1]) ++ [.ref u2]))) := But.keep But.upd hw10
              refine ⟨_, ?_, _, _, _, _, _, _, (WL ++ [(off, lf, k, ((off + lf.size : Nat) : Int))]) ++ [(off + lf.size + 1, rt, k + 1, ((off + lf.size : Nat) : Int))], (us ++ [.ref u1]) ++ [.ref u2], rfl, rfl, Same.mut sm10 nw1, upd_same, DpAll.keep kp11 (tf_i3 _) hA10, fun x hx => ?_, ?_⟩
              · simp only [todo_app, todo, hsz]; omega
              · rcases List.mem_append.mp hx with hx | hx
                · rcases List.mem_append.mp hx with hx | hx
                  · exact hSub x (List.mem_append_left _ hx)
                  · have e : x = (off, lf, k, ((off + lf.size : Nat) : Int)) := by simpa using hx
                    rw [e]; exact .left hsub
                · have e : x = (off + lf.size + 1, rt, k + 1, ((off + lf.size : Nat) : Int)) := by simpa using hx
                  rw [e]; exact .right hsub
              · simp only [todo_app, todo, hsz] at hlen ⊢; omega
def sp_is_tree (K : PySem.W.Frag) : Sp := fun vs H Q _ => ∃ (a : Addr) (t : T), vs = [.ref a] ∧ SqT K H a (t.parOf.map V.int) ∧ t.size ≤ 60 ∧ ∀ H', Same H H' → Q (.bl true) H'
theorem dp_bools_inv {K : PySem.W.Frag} {H : Hp} : ∀ {ns : List Bool} {vs : List V}, DpAll K H vs (ns.map PyData.bool) → vs = ns.map V.bl
  | [], _, .nil => rfl
  | n :: ns, _, .cons a b => by
    cases a
    rw [dp_bools_inv b]
    rfl
theorem ok_is_tree (TX : Tx K mg) : FnOk P w K mg base CX0 2 TX.a_is_tree TX.fd_is_tree ["value"] (sp_is_tree K) := by
  refine TX.f_is_tree.ok sc_is_tree (fun vs H Q E h => ?_) (fun cdv A outer s H vs Q E hr h => ?_)
  · obtain ⟨a, t, rfl, _⟩ := h; rfl
  · obtain ⟨a, t, rfl, hS, hz, q⟩ := h
    refine ⟨_, (pss_cons (ps_if (PW.pt (pw_or (pt_not (pt_val (pe_callB (id := "isinstance") (k_isi (K := K) rfl) (by rfl) TX.b_isinstance (by decide +kernel) (pa_cons (pv 0) (pa_cons (pe_bltn (v := .ty "tuple") (by rfl) TX.b_tuple (by decide +kernel) rfl) pa_nil))))) (pw_or1 (pt_cmpR op_gt (pe_callB (id := "len") (k_len (K := K) rfl) (by rfl) TX.b_len (by decide +kernel) (pa_cons (pv 0) pa_nil)) (pe_glob (v := .int (60)) (by rfl) TX.c_MOST_FLUSHES ⟨_, rfl⟩) (nomark _)))))
        (pss_one (ps_ret pe_bl))
        pss_nil)
      (pss_cons (ps_if (pt_not (pt_val (pe_callB (id := "all") (cr_all rfl) (by rfl) TX.b_all (by decide +kernel) (pa_cons (pe_lc (own := [("parent", 1)]) (by rfl) sc_is_tree.nd (k_piT (K := K) rfl (pv 0)) (blkOk_by (own := [("parent", 1)]) (N := N_is_tree) (sc := defScope s_is_tree) (by decide +kernel)) (fun _ _ _ _ _ => (pg_name (i := 1) sc_is_tree.nd rfl (Or.inl rfl))) (fun _ _ _ _ _ => pts_nil) (fun _ _ _ _ _ => (pe_call (ok_is_int TX) (hr.mono (by decide)) (by rfl) TX.g_is_int TX.f_is_int.kp TX.bd_is_int .nil pass0 (pa_cons (pv 1) pa_nil)))) pa_nil))))
        (pss_one (ps_ret pe_bl))
        pss_nil)
      (pss_one (ps_ret (pe_call (ok_is_numbered_in_order TX) (hr.mono (by decide)) (by rfl) TX.g_is_numbered_in_order TX.f_is_numbered_in_order.kp TX.bd_is_numbered_in_order .nil pass0 (pa_cons (pv 0) pa_nil)))))), ?_⟩
    have hl : (t.parOf.map V.int).length = t.size := by rw [List.length_map, parOf_len]
    refine ⟨.ref a, rfl, .ref a, .ty "tuple", .type "tuple", .type "tuple", true, rfl, .ty _, ty_tup hS, kit_ty (by decide +kernel), true, rfl, iteF ⟨.ref a, rfl, a, _, rfl, .inr hS, _, _, rfl, rfl, _, rfl, decF (by rw [hl]; omega) ?_⟩⟩
    refine ⟨.ref a, rfl, a, rfl, ⟨_, hS⟩, fun D nD => lc_all (K := K) walk_tup ((List.replicate t.size true).map PyData.bool) (by rw [List.length_map, List.length_replicate, hl]) (fun d h => ?_) (by omega) nD (fun H' s' => Same.tup s' hS) ?_ ?_ (fun x σ' H' Q Q' h => h _ _) (fun σ' H' Q Q' h => h _ _)⟩
    · obtain ⟨b, _, rfl⟩ := List.mem_map.mp h
      exact .bl b
    · rintro i x H2 H2' hi s2 ⟨rfl, hx⟩ d hd R hR
      rw [List.getElem?_map] at hx
      cases hp : t.parOf[i]? with
      | none => rw [hp] at hx; cases hx
      | some v =>
        rw [hp] at hx
        cases hx
        refine ⟨rfl, rfl, .int v, rfl, v, rfl, hR _ _ (Same.refl _) ?_⟩
        rw [List.getElem?_map, List.getElem?_replicate, if_pos (by omega)] at hd
        cases hd
        exact .bl true
    · intro H2 acc s2 ha hAcc
      rw [dp_bools_inv hAcc] at ha
      refine ⟨D, List.replicate t.size true, rfl, .inl (.inl ha), _, rfl, ?_⟩
      have e : (List.replicate t.size true).all id = true := by simp
      rw [e]
      exact iteF ⟨.ref a, rfl, a, t, rfl, Same.tup s2 hS, hz, fun H' s' => q H' (s2.trans s')⟩
end
theorem wr_at {t : T} {i : Nat} (h : i < t.size) : t.wr[i]? = some (t.wr.getD i 0) := by
  rw [List.getD_eq_getElem?_getD, List.getElem?_eq_getElem (by rw [T.wr_len]; exact h)]; rfl
theorem rc_atD {t : T} {i : Nat} (h : i < t.size) : t.rc[i]? = some (t.rc.getD i 0) := by
  rw [List.getD_eq_getElem?_getD, List.getElem?_eq_getElem (by rw [T.rc_len]; exact h)]; rfl
theorem par_at {t : T} {i : Nat} (h : i < t.size) : t.parOf[i]? = some (t.parOf.getD i 0) := by
  rw [List.getD_eq_getElem?_getD, List.getElem?_eq_getElem (by rw [parOf_len]; exact h)]; rfl
theorem at_par {t : T} {i : Nat} (h : i < t.size) : atI (t.parOf.map V.int) (i : Int) = some (.int (t.parOf.getD i 0)) := by
  refine atI_nat ?_
  rw [List.getElem?_map, par_at h]; rfl
/-- (left edges, right edges) -/
def dEd (t : T) (i : Nat) : PyData := .tuple [.int ((t.wr.getD i 0 : Int) - 1), .int ((t.rc.getD i 0 : Int) - 1)]
def dEdges (t : T) : List PyData := (List.range t.size).map (dEd t)
theorem tf_edges (t : T) : ∀ d, d ∈ dEdges t → Tf d := fun d h => by
  obtain ⟨i, _, rfl⟩ := List.mem_map.mp h
  exact .tup (tf_ints [((t.wr.getD i 0 : Int) - 1), ((t.rc.getD i 0 : Int) - 1)])
def EdInv (t : T) (H : Hp) (a : Addr) (i : Nat) (m : Nat) (σ : L2.St) (H' : Hp) : Prop := ∃ (lf rt : Int) (c : Nat), σ = [some (.ref a), some (.int (i : Int)), some (.int lf), some (.int rt), some (.int (c : Int))] ∧ H' = H ∧ c < t.size ∧ m = t.wr.getD c 0 + t.rc.getD c 0 ∧
  lf + (t.wr.getD c 0 : Int) = (t.wr.getD i 0 : Int) ∧ rt + (t.rc.getD c 0 : Int) = (t.rc.getD i 0 : Int)
section
variable {P : Program} {w : World} {K : PySem.W.Frag} {mg : Str → Option Value} {base : Heap}
def sp_edges_above (K : PySem.W.Frag) : Sp := fun vs H Q _ => ∃ (a : Addr) (t : T) (i : Nat), vs = [.ref a, .int (i : Int)] ∧ SqT K H a (t.parOf.map V.int) ∧ i < t.size ∧ ∀ H' p, Same H H' → Dp K H' (.ref p) (dEd t i) → Q (.ref p) H'
theorem ok_edges_above (TX : Tx K mg) : FnOk P w K mg base CX0 1 TX.a_edges_above TX.fd_edges_above ["tree", "node"] (sp_edges_above K) := by
  refine TX.f_edges_above.ok sc_edges_above (fun vs H Q E h => ?_) (fun cdv A outer s H vs Q E hr h => ?_)
  · obtain ⟨a, t, i, rfl, _⟩ := h; rfl
  · obtain ⟨a, t, i, rfl, hS, hi, q⟩ := h
    refine ⟨_, (pss_cons (ps_set (i := 2) sc_edges_above.nd rfl (.inl rfl) pe_int)
      (pss_cons (ps_set (i := 3) sc_edges_above.nd rfl (.inl rfl) pe_int)
      (pss_cons (ps_set (i := 4) sc_edges_above.nd rfl (.inl rfl) (pv 1))
      (pss_cons (ps_while PassesOwn.never (pt_cmpR op_ne (pe_ix (k_ixT (K := K) rfl) (pv 0) (pv 4) (fun _ _ => rfl)) (pe_glob (v := .int (-1)) (by rfl) TX.c_NO_PARENT ⟨_, rfl⟩) (nomark _))
        (pss_cons (ps_if (pt_cmpR op_lt (pv 4) (pe_ix (k_ixT (K := K) rfl) (pv 0) (pv 4) (fun _ _ => rfl)) (nomark _))
          (pss_one (ps_aug (i := 2) sc_edges_above.nd rfl (.inl rfl) pe_int ip_add))
          (pss_one (ps_aug (i := 3) sc_edges_above.nd rfl (.inl rfl) pe_int ip_add)))
        (pss_one (ps_set (i := 4) sc_edges_above.nd rfl (.inl rfl) (pe_ix (k_ixT (K := K) rfl) (pv 0) (pv 4) (fun _ _ => rfl))))))
      (pss_one (ps_ret (pe_tup (pa_cons (pv 2) (pa_cons (pv 3) pa_nil))))))))), ?_⟩
    refine ⟨.int (i : Int), rfl, EdInv t H a i, ⟨_, 0, 0, i, rfl, rfl, hi, rfl, by omega, by omega⟩, ?_⟩
    rintro m σ H' ⟨lf, rt, c, rfl, rfl, hc, rfl, e1, e2⟩
    refine ⟨.ref a, rfl, _, rfl, a, _, _, _, rfl, rfl, hS, at_par hc, rfl, _, rfl, ?_⟩
    have hp := par_at hc
    rcases up t 0 (-1) c _ hp with ⟨f1, f2, f3⟩ | ⟨j, f1, f2, f3, f4, f5⟩
    · rw [f1]
      refine iteF ?_
      refine ⟨_, rfl, _, rfl, sz60 (by simp), fun p np => q _ p (same_upd np) (.tup (.inl (.inl upd_same)) ?_)⟩
      rw [f2] at e1
      rw [f3] at e2
      have := dp_ints (K := K) (H := upd H' p (HO.tup [V.int lf, V.int rt])) [lf, rt]
      have g1 : (t.wr.getD i 0 : Int) - 1 = lf := by omega
      have g2 : (t.rc.getD i 0 : Int) - 1 = rt := by omega
      rw [g1, g2]
      exact this
    · have ej : t.parOf.getD c 0 = (j : Int) := by rw [f1]; omega
      rw [ej]
      have nj : (!decide (V.int (j : Int) = V.int (-1))) = true := by
        have : ¬ V.int (j : Int) = V.int (-1) := fun z => by have := V.int.inj z; omega
        rw [decide_eq_false this]; rfl
      have hc1 := wr_pos hc
      have hc2 := rc_posD hc
      refine iteB1 nj ⟨fun σ' H'' => ∃ m', m' < t.wr.getD c 0 + t.rc.getD c 0 ∧ EdInv t H' a i m' σ' H'', fun _ _ h => h, ?_⟩
      refine ⟨_, rfl, .ref a, rfl, _, rfl, a, _, _, _, rfl, rfl, hS, at_par hc, _, _, rfl, rfl, _, rfl, ?_⟩
      rw [ej]
      refine ite2 (fun h => ?_) (fun h => ?_)
      · have hcj : c < j := by have := of_decide_eq_true h; omega
        obtain ⟨g1, g2⟩ := f4 hcj
        refine ⟨_, rfl, _, _, rfl, rfl, .ref a, rfl, _, rfl, a, _, _, _, rfl, rfl, hS, at_par hc, ?_⟩
        rw [ej]
        exact ⟨_, by omega, lf + 1, rt, j, rfl, rfl, f2, rfl, by omega, by omega⟩
      · have hcj : j < c := by
          have : ¬ ((c : Int) < (j : Int)) := fun z => h (decide_eq_true z)
          omega
        obtain ⟨g1, g2⟩ := f5 hcj
        refine ⟨_, rfl, _, _, rfl, rfl, .ref a, rfl, _, rfl, a, _, _, _, rfl, rfl, hS, at_par hc, ?_⟩
        rw [ej]
        exact ⟨_, by omega, lf, rt + 1, j, rfl, rfl, f2, rfl, by omega, by omega⟩
def sp_edges (K : PySem.W.Frag) : Sp := fun vs H Q _ => ∃ (a : Addr) (t : T), vs = [.ref a] ∧ SqT K H a (t.parOf.map V.int) ∧ t.size ≤ 60 ∧ ∀ H' p, Same H H' → Dp K H' (.ref p) (.tuple (dEdges t)) → Q (.ref p) H'
theorem ok_edges (TX : Tx K mg) : FnOk P w K mg base CX0 3 TX.a_edges TX.fd_edges ["tree"] (sp_edges K) := by
  refine TX.f_edges.ok sc_edges (fun vs H Q E h => ?_) (fun cdv A outer s H vs Q E hr h => ?_)
  · obtain ⟨a, t, rfl, _⟩ := h; rfl
  · obtain ⟨a, t, rfl, hS, hz, q⟩ := h
    refine ⟨_, (pss_cons (ps_if (pt_not (pt_val (pe_call (ok_is_tree TX) (hr.mono (by decide)) (by rfl) TX.g_is_tree TX.f_is_tree.kp TX.bd_is_tree .nil pass0 (pa_cons (pv 0) pa_nil))))
        (pss_one ps_never)
        pss_nil)
      (pss_one (ps_ret (pe_callTy (T := "tuple") (k_tupOf (K := K) rfl) (by rfl) TX.b_tuple (by decide +kernel) (pa_cons (pe_lc (own := [("node", 1)]) (by rfl) sc_edges.nd (pi_range1 (by rfl) TX.b_range (pa_cons (pe_callB (id := "len") (k_len (K := K) rfl) (by rfl) TX.b_len (by decide +kernel) (pa_cons (pv 0) pa_nil)) pa_nil)) (blkOk_by (own := [("node", 1)]) (N := N_edges) (sc := defScope s_edges) (by decide +kernel)) (fun _ _ _ _ _ => (pg_name (i := 1) sc_edges.nd rfl (Or.inl rfl))) (fun _ _ _ _ _ => pts_nil) (fun _ _ _ _ _ => (pe_call (ok_edges_above TX) (hr.mono (by decide)) (by rfl) TX.g_edges_above TX.f_edges_above.kp TX.bd_edges_above .nil pass0 (pa_cons (pv 0) (pa_cons (pv 1) pa_nil))))) pa_nil))))), ?_⟩
    have hl : (t.parOf.map V.int).length = t.size := by rw [List.length_map, parOf_len]
    refine ⟨.ref a, rfl, a, t, rfl, hS, hz, fun H1 s1 => ⟨true, rfl, iteF ?_⟩⟩
    have hS1 := Same.tup s1 hS
    refine ⟨.ref a, rfl, a, _, rfl, .inr hS1, _, rfl, by omega, by omega, fun D nD => ?_⟩
    rw [hl, Int.toNat_natCast]
    refine lc_all (K := K) walk_range (dEdges t) (by simp [dEdges]) (tf_edges t) (by omega) nD (fun _ _ => trivial) ?_ ?_ (fun x σ' H' Q Q' h => h _ _) (fun σ' H' Q Q' h => h _ _)
    · rintro i x H2 H2' hi s2 ⟨rfl, rfl⟩ d hd R hR
      have ei : (0 : Int) + (i : Nat) = (i : Int) := by omega
      show gName 1 (V.int ((0 : Int) + (i : Nat))) _ _ _
      rw [ei]
      have ed : d = dEd t i := by
        rw [dEdges, List.getElem?_map, List.getElem?_range hi] at hd
        exact (Option.some.inj hd).symm
      subst ed
      exact ⟨rfl, rfl, .ref a, rfl, _, rfl, a, t, i, rfl, Same.tup s2 hS1, hi, fun H' p s' h' => hR _ _ s' h'⟩
    · intro H2 acc s2 ha hAcc
      refine ⟨D, acc, rfl, .inl ⟨.inl (.inl ha), fun o no => ?_⟩⟩
      exact q _ o ((s1.trans s2).trans (same_upd no)) (.tup (.inl (.inl upd_same)) (DpAll.same (same_upd no) hAcc))
def sp_schedule_of (K : PySem.W.Frag) : Sp := fun vs H Q _ => ∃ (a : Addr) (t : T), vs = [.ref a] ∧ SqT K H a (t.parOf.map V.int) ∧ t.size ≤ 60 ∧ ∀ H' p, Same H H' → SqT K H' p (vi t.sch) → Q (.ref p) H'
theorem ok_schedule_of (TX : Tx K mg) : FnOk P w K mg base CX0 4 TX.a_schedule_of TX.fd_schedule_of ["tree"] (sp_schedule_of K) := by
  refine TX.f_schedule_of.ok sc_schedule_of (fun vs H Q E h => ?_) (fun cdv A outer s H vs Q E hr h => ?_)
  · obtain ⟨a, t, rfl, _⟩ := h; rfl
  · obtain ⟨a, t, rfl, hS, hz, q⟩ := h
    refine ⟨_, (pss_cons (ps_set (i := 1) sc_schedule_of.nd rfl (.inl rfl) (pe_lst pa_nil))
      (pss_cons (ps_set (i := 2) sc_schedule_of.nd rfl (.inl rfl) pe_int)
      (pss_cons (ps_for PassesOwn.never rfl (k_piT (K := K) rfl (pe_call (ok_edges TX) (hr.mono (by decide)) (by rfl) TX.g_edges TX.f_edges.kp TX.bd_edges .nil pass0 (pa_cons (pv 0) pa_nil))) (pg_tup rfl (pgs_cons (pg_name (i := 3) sc_schedule_of.nd rfl (.inl rfl)) (pgs_cons (pg_name (i := 4) sc_schedule_of.nd rfl (.inl rfl)) pgs_nil)))
        (pss_cons (ps_set (i := 5) sc_schedule_of.nd rfl (.inl rfl) (pe_op op_add (pv 4) pe_int))
        (pss_cons (ps_expr (pe_bm PySem.F.plainAttrs_list PySem.F.slot_list_append PySem.F.type_list_append mt_append (pv 1) (pa_cons (pe_op op_sub (pe_op op_add (pv 2) pe_int) (pv 5)) pa_nil)))
        (pss_one (ps_set (i := 2) sc_schedule_of.nd rfl (.inl rfl) (pv 5))))))
      (pss_one (ps_ret (pe_callTy (T := "tuple") (k_tupOf (K := K) rfl) (by rfl) TX.b_tuple (by decide +kernel) (pa_cons (pv 1) pa_nil))))))), ?_⟩
    refine ⟨sz60 (by simp), fun l nl => ?_⟩
    have s0 : Same H (upd H l (.lst [])) := same_upd nl
    refine ⟨.ref a, rfl, a, t, rfl, Same.tup s0 hS, hz, fun H1 p1 s1 h1 => ?_⟩
    obtain ⟨p1', xs, e, hX, hA⟩ := Dp.tupInv h1
    cases e
    have hl := DpAll.len hA
    have hle : (dEdges t).length = t.size := by simp [dEdges]
    rw [hle] at hl
    refine ⟨p1, rfl, ⟨_, hX⟩, for_tup (K := K) (xs := xs) (fun i σ H' => ∃ y3 y4 y5, σ = [some (.ref a), some (.ref l), some (.int ((pre t i).runs : Int)), y3, y4, y5] ∧ Same H H' ∧ Keep K H1 H' ∧ H' l = some (.lst (vi (t.sch.take i))))
      ⟨none, none, none, rfl, s0.trans s1, Keep.refl, s1 _ _ upd_same⟩ (fun i σ H' _ ⟨_, _, _, _, _, k, _⟩ => k _ _ hX) ?_ ?_⟩
    · rintro i x σ H2 hx ⟨y3, y4, y5, rfl, s2, k2, hl2⟩
      have hi : i < t.size := by rw [← hl]; exact (List.getElem?_eq_some_iff.mp hx).1
      have hd : (dEdges t)[i]? = some (dEd t i) := by rw [dEdges, List.getElem?_map, List.getElem?_range hi]; rfl
      obtain ⟨v, g1, g2⟩ := DpAll.get (DpAll.keep k2 (tf_edges t) hA) hd
      rw [hx] at g1
      cases g1
      obtain ⟨b, e, g3⟩ := Dp.intsInv (ns := [((t.wr.getD i 0 : Int) - 1), ((t.rc.getD i 0 : Int) - 1)]) g2
      cases e
      obtain ⟨m, hm⟩ : ∃ m, t.sch[i]? = some m := ⟨_, List.getElem?_eq_getElem (show i < t.sch.length by rw [T.sch_len]; exact hi)⟩
      obtain ⟨f1, f2⟩ := pre_succ hm
      have f3 := rc_at hm
      rw [rc_atD hi] at f3
      have f4 : t.rc.getD i 0 = (pre t i).runs - m + 1 := Option.some.inj f3
      have f5 := T.push_runs _ _ f2
      refine ⟨b, _, rfl, g3, rfl, _, _, rfl, _, [], rfl, rfl, ?_⟩
      refine ⟨_, rfl, _, _, rfl, rfl, ?_⟩
      refine ⟨.ref l, rfl, .inl ⟨rfl, _, .inl (.inl hl2)⟩, _, rfl, _, _, rfl, rfl, _, rfl, _, _, rfl, rfl, l, _, _, rfl, rfl, hl2, sz61 (by rw [vi_len, List.length_take]; omega), ?_⟩
      refine ⟨_, rfl, ?_⟩
      refine ⟨some (V.int ((t.wr.getD i 0 : Int) - 1)), some (V.int ((t.rc.getD i 0 : Int) - 1)), some (V.int ((t.rc.getD i 0 : Int) - 1 + 1)), ?_, Same.mut s2 nl, k2.trans (But.keep But.upd hl2), ?_⟩
      · rw [f1, f5, ← f4, show (t.rc.getD i 0 : Int) = (t.rc.getD i 0 : Int) - 1 + 1 by omega]
        rw [show (t.rc.getD i 0 : Int) - 1 + 1 - 1 = (t.rc.getD i 0 : Int) - 1 by omega]
        rfl
      · rw [List.take_add_one, hm, vi_app]
        have e : ((pre t i).runs : Int) + 1 - ((t.rc.getD i 0 : Int) - 1 + 1) = (m : Int) := by rw [f4]; omega
        dsimp only
        rw [e]
        exact upd_same
    · rintro σ H2 ⟨y3, y4, y5, rfl, s2, k2, hl2⟩
      rw [hl, List.take_of_length_le (by rw [T.sch_len]; omega)] at hl2
      refine ⟨.ref l, rfl, l, _, rfl, .inl ⟨.inl (.inl hl2), fun o no => ?_⟩⟩
      exact q _ o (s2.trans (same_upd no)) (.inl (.inl upd_same))
def sp_mirrored_node (K : PySem.W.Frag) : Sp := fun vs H Q _ => ∃ n l : Int, vs = [.int n, .int l] ∧ Q (.int (mirN (l + 1) n)) H
theorem ok_mirrored_node (TX : Tx K mg) : FnOk P w K mg base CX0 1 TX.a_mirrored_node TX.fd_mirrored_node ["node", "last"] (sp_mirrored_node K) := by
  refine TX.f_mirrored_node.ok sc_mirrored_node (fun vs H Q E h => ?_) (fun cdv A outer s H vs Q E hr h => ?_)
  · obtain ⟨n, l, rfl, _⟩ := h; rfl
  · obtain ⟨n, l, rfl, q⟩ := h
    refine ⟨_, (pss_one (ps_ret (pe_ifExp (pt_cmpR op_eq (pv 0) (pe_glob (v := .int (-1)) (by rfl) TX.c_NO_PARENT ⟨_, rfl⟩) (nomark _)) (pe_glob (v := .int (-1)) (by rfl) TX.c_NO_PARENT ⟨_, rfl⟩) (pe_op op_sub (pv 1) (pv 0))))), ?_⟩
    refine ⟨_, rfl, rfl, _, rfl, ite2 (fun e => ?_) (fun e => ?_)⟩
    · have e0 : n = -1 := V.int.inj (of_decide_eq_true e)
      unfold mirN at q
      rw [if_pos e0] at q
      exact q
    · have e0 : ¬ n = -1 := fun z => e (decide_eq_true (by rw [z]))
      unfold mirN at q
      rw [if_neg e0, show l + 1 - 1 - n = l - n by omega] at q
      exact ⟨_, rfl, _, rfl, _, _, rfl, rfl, q⟩
def sp_mirror (K : PySem.W.Frag) : Sp := fun vs H Q _ => ∃ (a : Addr) (t : T), vs = [.ref a] ∧ SqT K H a (vi t.sch) ∧ t.size ≤ 60 ∧ ∀ H' p, Same H H' → SqT K H' p (vi t.mir.sch) → Q (.ref p) H'
theorem walk_revT {K : PySem.W.Frag} {a : Addr} {xs : List V} : Walk (RT.ItvT K a xs.length) xs.length (fun H => SqT K H a xs) (fun i H x H' => H' = H ∧ xs[xs.length - 1 - i]? = some x) := by
  refine ⟨fun i H hi hG => ?_, fun H hG => ?_, fun i H x H' hi hG y => ?_⟩
  · exact ⟨hi, xs, xs[xs.length - 1 - i], hG, List.getElem?_eq_getElem (by omega)⟩
  · exact Nat.le_refl _
  · exact ⟨y.1, y.2 xs hG⟩
theorem ok_mirror (TX : Tx K mg) : FnOk P w K mg base CX0 8 TX.a_mirror TX.fd_mirror ["schedule"] (sp_mirror K) := by
  refine TX.f_mirror.ok sc_mirror (fun vs H Q E h => ?_) (fun cdv A outer s H vs Q E hr h => ?_)
  · obtain ⟨a, t, rfl, _⟩ := h; rfl
  · obtain ⟨a, t, rfl, hS, hz, q⟩ := h
    refine ⟨_, (pss_cons (ps_set (i := 1) sc_mirror.nd rfl (.inl rfl) (pe_call (ok_tree_of TX) (hr.mono (by decide)) (by rfl) TX.g_tree_of TX.f_tree_of.kp TX.bd_tree_of .nil pass0 (pa_cons (pv 0) pa_nil)))
      (pss_cons (ps_set (i := 2) sc_mirror.nd rfl (.inr rfl) (pe_op op_sub (pe_callB (id := "len") (k_len (K := K) rfl) (by rfl) TX.b_len (by decide +kernel) (pa_cons (pv 1) pa_nil)) pe_int))
      (pss_one (ps_ret (pe_call (ok_schedule_of TX) (hr.mono (by decide)) (by rfl) TX.g_schedule_of TX.f_schedule_of.kp TX.bd_schedule_of .nil pass0 (pa_cons (pe_callTy (T := "tuple") (k_tupOf (K := K) rfl) (by rfl) TX.b_tuple (by decide +kernel) (pa_cons (pe_lc (own := [("parent", 3)]) (by rfl) sc_mirror.nd (RT.pi_revA (by rfl) TX.b_reversed (pv 1)) (blkOk_by (own := [("parent", 3)]) (N := N_mirror) (sc := defScope s_mirror) (by decide +kernel)) (fun _ _ _ _ _ => (pg_name (i := 3) sc_mirror.nd rfl (Or.inl rfl))) (fun _ _ _ _ _ => pts_nil) (fun _ _ _ _ _ => (pe_call (ok_mirrored_node TX) (hr.mono (by decide)) (by rfl) TX.g_mirrored_node TX.f_mirrored_node.kp TX.bd_mirrored_node .nil pass0 (pa_cons (pv 3) (pa_cons (pv 2) pa_nil))))) pa_nil)) pa_nil)))))), ?_⟩
    have hl : (t.parOf.map V.int).length = t.size := by rw [List.length_map, parOf_len]
    refine ⟨.ref a, rfl, a, t, rfl, hS, hz, fun H1 p1 ob s1 h1' _ => ?_⟩
    have h1 : SqT K H1 p1 (t.parOf.map V.int) := .inl (.inr ⟨ob, h1'⟩)
    refine ⟨.ref p1, rfl, p1, _, rfl, .inr h1, _, _, rfl, rfl, ?_⟩
    refine ⟨.ref p1, rfl, p1, _, rfl, .inr ⟨h1, fun D nD => ?_⟩⟩
    refine lc_all (K := K) walk_revT (t.mir.parOf.map PyData.int) (by rw [List.length_map, parOf_len, mir_size, hl]) (tf_ints _) (by omega) nD (fun H' s' => Same.tup s' h1) ?_ ?_ (fun x σ' H' Q Q' h => h _ _) (fun σ' H' Q Q' h => h _ _)
    · rintro i x H2 H2' hi s2 ⟨rfl, hx⟩ d hd R hR
      rw [hl] at hx hi
      rw [List.getElem?_map, par_at (by omega)] at hx
      cases hx
      refine ⟨rfl, rfl, _, rfl, _, rfl, _, _, rfl, hR _ _ (Same.refl _) ?_⟩
      rw [List.getElem?_map, mir_parOf, List.getElem?_map, List.getElem?_reverse (by rw [parOf_len]; exact hi), parOf_len, par_at (by omega)] at hd
      have ed : d = .int (mirN t.size (t.parOf.getD (t.size - 1 - i) 0)) := (Option.some.inj hd).symm
      rw [ed, hl, show ((t.size : Int) - 1 + 1) = t.size by omega]
      exact .int _
    · intro H2 acc s2 ha hAcc
      rw [dp_ints_inv hAcc] at ha
      refine ⟨D, _, rfl, .inl ⟨.inl (.inl ha), fun o no => ?_⟩⟩
      exact ⟨o, t.mir, rfl, .inl (.inl upd_same), by rw [mir_size]; exact hz, fun H' p s' h' => q H' p (((s1.trans s2).trans (same_upd no)).trans s') h'⟩
end
theorem dpBoolsI {K : PySem.W.Frag} {H : Hp} : ∀ {vs : List V} {bs : List Bool}, DpAll K H vs (bs.map PyData.bool) → vs = bs.map V.bl
  | _, [], .nil => rfl
  | _, _ :: _, .cons a b => by
    cases a
    rw [dpBoolsI b]; rfl
section
variable {P : Program} {w : World} {K : PySem.W.Frag} {mg : Str → Option Value} {base : Heap}
/-- sizes or reads -/
def Lds (ns : List Int) : Prop := ∀ x, x ∈ ns → 0 ≤ x ∧ x ≤ 1000000000
def sp_are_loads (K : PySem.W.Frag) : Sp := fun vs H Q _ => ∃ (a : Addr) (ns : List Int) (lo hi : Int), vs = [.ref a, .int lo, .int hi] ∧ SqT K H a (ns.map V.int) ∧ Lds ns ∧ lo ≤ (ns.length : Int) ∧ (ns.length : Int) ≤ hi ∧ ns.length ≤ 1000 ∧ ∀ H', Same H H' → Q (.bl true) H'
theorem ok_are_loads (TX : Tx K mg) : FnOk P w K mg base CX0 4 TX.a_are_loads TX.fd_are_loads ["value", "fewest", "most"] (sp_are_loads K) := by
  refine TX.f_are_loads.ok sc_are_loads (fun vs H Q E h => ?_) (fun cdv A outer s H vs Q E hr h => ?_)
  · obtain ⟨a, ns, lo, hi, rfl, _⟩ := h; rfl
  · obtain ⟨a, ns, lo, hi, rfl, hS, hL, h1, h2, h3, q⟩ := h
    have hlen : ((ns.map V.int).length : Int) = (ns.length : Int) := by rw [List.length_map]
    refine ⟨_, (pss_cons (ps_if (PW.pt (pw_or (pt_not (pt_val (pe_callB (id := "isinstance") (k_isi (K := K) rfl) (by rfl) TX.b_isinstance (by decide +kernel) (pa_cons (pv 0) (pa_cons (pe_bltn (v := .ty "tuple") (by rfl) TX.b_tuple (by decide +kernel) rfl) pa_nil))))) (pw_or1 (pt_not (pt_chain op_le op_le (pv 1) (pe_callB (id := "len") (k_len (K := K) rfl) (by rfl) TX.b_len (by decide +kernel) (pa_cons (pv 0) pa_nil)) (pv 2))))))
        (pss_one (ps_ret pe_bl))
        pss_nil)
      (pss_one (ps_ret (pe_callB (id := "all") (cr_all rfl) (by rfl) TX.b_all (by decide +kernel) (pa_cons (pe_lc (own := [("load", 3)]) (by rfl) sc_are_loads.nd (k_piT (K := K) rfl (pv 0)) (blkOk_by (own := [("load", 3)]) (N := N_are_loads) (sc := defScope s_are_loads) (by decide +kernel)) (fun _ _ _ _ _ => (pg_name (i := 3) sc_are_loads.nd rfl (Or.inl rfl))) (fun _ _ _ _ _ => pts_nil) (fun _ _ _ _ _ => (pe_call (ok_is_count_up_to TX) (hr.mono (by decide)) (by rfl) TX.g_is_count_up_to TX.f_is_count_up_to.kp TX.bd_is_count_up_to .nil pass0 (pa_cons (pv 3) (pa_cons (pe_glob (v := .int (1000000000)) (by rfl) TX.c_MOST_LOAD ⟨_, rfl⟩) pa_nil))))) pa_nil))))), ?_⟩
    refine ⟨.ref a, rfl, .ref a, .ty "tuple", .type "tuple", .type "tuple", true, rfl, .ty _, ty_tup hS, kit_ty (by decide +kernel), true, rfl, iteF ⟨_, rfl, .ref a, rfl, a, _, rfl, .inr hS, _, _, rfl, rfl, _, rfl, ?_⟩⟩
    refine decT (by rw [hlen]; exact h1) ⟨_, rfl, _, _, rfl, rfl, _, rfl, iteB0 (by rw [hlen, decide_eq_true h2]; rfl) ?_⟩
    refine ⟨.ref a, rfl, a, rfl, ⟨_, hS⟩, fun D nD => ?_⟩
    refine lc_all (K := K) (walk_tup (xs := ns.map V.int)) ((List.replicate ns.length true).map PyData.bool) (by rw [List.length_map, List.length_replicate, List.length_map]) (fun d h => by obtain ⟨b, _, rfl⟩ := List.mem_map.mp h; exact .bl b) (by rw [List.length_map]; exact h3) nD (fun H' s' => Same.tup s' hS) ?_ ?_ (fun x σ' H' Q Q' h => h _ _) (fun σ' H' Q Q' h => h _ _)
    · rintro i x Hx Hx' hi sx ⟨rfl, hx⟩ d hd R hR
      rw [List.getElem?_map, Option.map_eq_some_iff] at hx
      obtain ⟨z, hz, rfl⟩ := hx
      have hz2 := hL z (List.mem_of_getElem? hz)
      refine ⟨rfl, rfl, _, rfl, z, 1000000000, rfl, hR _ _ (Same.refl _) ?_⟩
      rw [decide_eq_true hz2.1, decide_eq_true hz2.2]
      rw [List.getElem?_map, List.getElem?_replicate, if_pos (by rw [List.length_map] at hi; exact hi)] at hd
      cases hd
      exact .bl true
    · intro H2 acc s2 ha hA
      rw [dpBoolsI hA] at ha
      refine ⟨D, List.replicate ns.length true, rfl, .inl (.inl ha), ?_⟩
      have e : (List.replicate ns.length true).all id = true := by simp
      rw [e]
      exact q _ s2
def sp_check_sizes (K : PySem.W.Frag) : Sp := fun vs H Q _ => ∃ (a : Addr) (ns : List Int) (lo hi : Int), vs = [.ref a, .int lo, .int hi] ∧ SqT K H a (ns.map V.int) ∧ Lds ns ∧ lo ≤ (ns.length : Int) ∧ (ns.length : Int) ≤ hi ∧ ns.length ≤ 1000 ∧ ∀ H', Same H H' → Q .non H'
theorem ok_check_sizes (TX : Tx K mg) : FnOk P w K mg base CX0 5 TX.a_check_sizes TX.fd_check_sizes ["sizes", "fewest", "most"] (sp_check_sizes K) := by
  refine TX.f_check_sizes.ok sc_check_sizes (fun vs H Q E h => ?_) (fun cdv A outer s H vs Q E hr h => ?_)
  · obtain ⟨a, ns, lo, hi, rfl, _⟩ := h; rfl
  · obtain ⟨a, ns, lo, hi, rfl, hS, hL, h1, h2, h3, q⟩ := h
    refine ⟨_, (pss_one (ps_if (pt_not (pt_val (pe_call (ok_are_loads TX) (hr.mono (by decide)) (by rfl) TX.g_are_loads TX.f_are_loads.kp TX.bd_are_loads .nil pass0 (pa_cons (pv 0) (pa_cons (pv 1) (pa_cons (pv 2) pa_nil))))))
        (pss_one ps_never)
        pss_nil)), ?_⟩
    exact ⟨.ref a, rfl, .int lo, rfl, .int hi, rfl, a, ns, lo, hi, rfl, hS, hL, h1, h2, h3, fun H' s' => ⟨true, rfl, iteF (q H' s')⟩⟩
end
/-- the sum of the loads, each times its count -/
def dot (xs : List Int) (ns : List Nat) : Int := (List.zipWith (fun (x : Int) (n : Nat) => x * (n : Int)) xs ns).sum
theorem wr_le : ∀ (t : T) (n : Nat), n ∈ t.wr → n ≤ t.size
  | .nil, n, h => by cases h
  | .node l r, n, h => by
    simp only [T.wr, List.mem_append, List.mem_map, List.mem_cons] at h
    simp only [T.size]
    rcases h with ⟨m, hm, rfl⟩ | rfl | hm
    · have := wr_le l m hm; omega
    · omega
    · have := wr_le r n hm; omega
theorem rc_le : ∀ (t : T) (n : Nat), n ∈ t.rc → n ≤ t.size
  | .nil, n, h => by cases h
  | .node l r, n, h => by
    simp only [T.rc, List.mem_append, List.mem_map, List.mem_cons] at h
    simp only [T.size]
    rcases h with hm | rfl | ⟨m, hm, rfl⟩
    · have := rc_le l n hm; omega
    · omega
    · have := rc_le r m hm; omega
theorem dot_bd : ∀ {xs : List Int} {ns : List Nat}, Lds xs → (∀ n, n ∈ ns → n ≤ 60) → 0 ≤ dot xs ns ∧ dot xs ns ≤ (xs.length : Int) * 60000000000
  | [], _, _, _ => by simp [dot]
  | _ :: _, [], _, _ => by simp [dot]; omega
  | x :: xs, n :: ns, h1, h2 => by
    have ih := dot_bd (xs := xs) (ns := ns) (fun y hy => h1 y (List.mem_cons_of_mem _ hy)) fun m hm => h2 m (List.mem_cons_of_mem _ hm)
    have a := h1 x (List.mem_cons_self ..)
    have b := h2 n (List.mem_cons_self ..)
    have c : x * (n : Int) ≤ 1000000000 * 60 := Int.mul_le_mul a.2 (by omega) (by omega) (by omega)
    have d : 0 ≤ x * (n : Int) := Int.mul_nonneg a.1 (by omega)
    have e : dot (x :: xs) (n :: ns) = x * (n : Int) + dot xs ns := by simp [dot]
    rw [e, List.length_cons]
    omega
section
variable {P : Program} {w : World} {K : PySem.W.Frag} {mg : Str → Option Value} {base : Heap}
def sp_weighted (K : PySem.W.Frag) : Sp := fun vs H Q _ => ∃ (a b : Addr) (xs : List Int) (ns : List Nat), vs = [.ref a, .ref b] ∧ SqT K H a (xs.map V.int) ∧ SqT K H b (vi ns) ∧ xs.length = ns.length ∧ xs.length ≤ 60 ∧ Lds xs ∧ (∀ n, n ∈ ns → n ≤ 60) ∧ ∀ H', Same H H' → Q (.int (dot xs ns)) H'
theorem ok_weighted (TX : Tx K mg) : FnOk P w K mg base CX0 1 TX.a_weighted TX.fd_weighted ["loads", "counts"] (sp_weighted K) := by
  refine TX.f_weighted.ok sc_weighted (fun vs H Q E h => ?_) (fun cdv A outer s H vs Q E hr h => ?_)
  · obtain ⟨a, b, xs, ns, rfl, _⟩ := h; rfl
  · obtain ⟨a, b, xs, ns, rfl, hA, hB, he, hz, hL, hn, q⟩ := h
    refine ⟨_, (pss_one (ps_ret (pe_callB (id := "sum") (cr_sum rfl) (by rfl) TX.b_sum (by decide +kernel) (pa_cons (pe_lc (own := [("load", 2), ("count", 3)]) (by rfl) sc_weighted.nd (RZ.pi_zipA (by rfl) TX.b_zip (pa_cons (pv 0) (pa_cons (pv 1) pa_nil))) (blkOk_by (own := [("load", 2), ("count", 3)]) (N := N_weighted) (sc := defScope s_weighted) (by decide +kernel)) (fun _ _ _ _ _ => (k_pgT2 (K := K) rfl rfl (pg_name (i := 2) sc_weighted.nd rfl (Or.inl rfl)) (pg_name (i := 3) sc_weighted.nd rfl (Or.inl rfl)))) (fun _ _ _ _ _ => pts_nil) (fun _ _ _ _ _ => (pe_op op_mulW (pv 2) (pv 3)))) pa_nil)))), ?_⟩
    refine ⟨.ref a, rfl, .ref b, rfl, a, b, _, _, rfl, .inr ⟨hA, hB, fun D nD => ?_⟩⟩
    refine lc_all (K := K) (walk_zipT (xs := xs.map V.int) (ys := vi ns) rfl) ((List.zipWith (fun (x : Int) (n : Nat) => x * (n : Int)) xs ns).map PyData.int) (by simp [vi]) (tf_ints _) (by simp [vi]; omega) nD (fun H' s' => ⟨Same.tup s' hA, Same.tup s' hB⟩) ?_ ?_ mono_pair (fun σ' H' Q Q' h => h _ _)
    · rintro i x Hx Hx' hi sx ⟨T, x1, x2, rfl, nT, rfl, e1, e2⟩ d hd R hR
      dsimp only at e1 e2
      have hix : i < xs.length := by simp [vi] at hi; omega
      have hiy : i < ns.length := by omega
      rw [List.getElem?_map, List.getElem?_eq_getElem hix] at e1
      rw [vi_get (List.getElem?_eq_getElem hiy)] at e2
      cases e1; cases e2
      rw [List.getElem?_map, List.getElem?_zipWith, List.getElem?_eq_getElem hix, List.getElem?_eq_getElem hiy] at hd
      cases hd
      have b1 := hL _ (List.getElem_mem hix)
      have b2 := hn _ (List.getElem_mem hiy)
      exact ⟨T, _, rfl, .inl (.inl upd_same), rfl, _, _, rfl, _, _, rfl, rfl, rfl, rfl, _, rfl, _, rfl, _, _, rfl, rfl, wide_mul (a := 31) (b := 8) (by omega) (by omega) (by decide) (by decide) (by decide), hR _ _ (same_upd nT) (.int _)⟩
    · intro H5 acc s5 ha hA5
      rw [dp_ints_inv hA5] at ha
      exact ⟨D, _, rfl, .inl (.inl ha), q _ s5⟩
def sp_write_work (K : PySem.W.Frag) : Sp := fun vs H Q _ => ∃ (a b : Addr) (t : T) (ss : List Int), vs = [.ref a, .ref b] ∧ SqT K H a (vi t.sch) ∧ SqT K H b (ss.map V.int) ∧ ss.length = t.size ∧ t.size ≤ 60 ∧ Lds ss ∧ ∀ H', Same H H' → Q (.int (dot ss t.wr)) H'
theorem ok_write_work (TX : Tx K mg) : FnOk P w K mg base CX0 7 TX.a_write_work TX.fd_write_work ["schedule", "sizes"] (sp_write_work K) := by
  refine TX.f_write_work.ok sc_write_work (fun vs H Q E h => ?_) (fun cdv A outer s H vs Q E hr h => ?_)
  · obtain ⟨a, b, t, ss, rfl, _⟩ := h; rfl
  · obtain ⟨a, b, t, ss, rfl, hA, hB, he, hz, hL, q⟩ := h
    refine ⟨_, (pss_cons (ps_set (i := 2) sc_write_work.nd rfl (.inl rfl) (pe_call (ok_writes TX) (hr.mono (by decide)) (by rfl) TX.g_writes TX.f_writes.kp TX.bd_writes .nil pass0 (pa_cons (pv 0) pa_nil)))
      (pss_cons (ps_expr (pe_call (ok_check_sizes TX) (hr.mono (by decide)) (by rfl) TX.g_check_sizes TX.f_check_sizes.kp TX.bd_check_sizes .nil pass0 (pa_cons (pv 1) (pa_cons (pe_callB (id := "len") (k_len (K := K) rfl) (by rfl) TX.b_len (by decide +kernel) (pa_cons (pv 2) pa_nil)) (pa_cons (pe_callB (id := "len") (k_len (K := K) rfl) (by rfl) TX.b_len (by decide +kernel) (pa_cons (pv 2) pa_nil)) pa_nil)))))
      (pss_one (ps_ret (pe_call (ok_weighted TX) (hr.mono (by decide)) (by rfl) TX.g_weighted TX.f_weighted.kp TX.bd_weighted .nil pass0 (pa_cons (pv 1) (pa_cons (pv 2) pa_nil))))))), ?_⟩
    refine ⟨.ref a, rfl, a, t, rfl, hA, hz, fun H1 p1 s1 h1 => ?_⟩
    have hwl : ((vi t.wr).length : Int) = (ss.length : Int) := by rw [vi_len, T.wr_len, he]
    refine ⟨.ref b, rfl, .ref p1, rfl, p1, _, rfl, .inr h1, .ref p1, rfl, p1, _, rfl, .inr h1, b, ss, _, _, rfl, Same.tup s1 hB, hL, by omega, by omega, by omega, fun H2 s2 => ?_⟩
    exact ⟨.ref b, rfl, .ref p1, rfl, b, p1, ss, t.wr, rfl, Same.tup (s1.trans s2) hB, Same.tup s2 h1, by rw [T.wr_len, he], by omega, hL, fun n hn => by have := wr_le t n hn; omega, fun H3 s3 => q _ ((s1.trans s2).trans s3)⟩
end
/-- the deal: a number not below 0, a seed, a count of at most n -/
def Deal (H : Hp) (a : Addr) (n : Int) : Prop := ∃ d s m : Int, H a = some (.lst [.int d, .int s, .int m]) ∧ 0 ≤ d ∧ 0 ≤ s ∧ s < 2 ^ 62 ∧ 0 ≤ m ∧ m ≤ n
theorem Deal.mono {H : Hp} {a : Addr} {n k : Int} (h : Deal H a n) (e : n ≤ k) : Deal H a k := by
  obtain ⟨d, s, m, h1, h2, h3, h4, h5, h6⟩ := h
  exact ⟨d, s, m, h1, h2, h3, h4, h5, by omega⟩
theorem Deal.same {H H' : Hp} {a : Addr} {n : Int} (h : Deal H a n) (e : Same H H') : Deal H' a n := by
  obtain ⟨d, s, m, h1, r⟩ := h
  exact ⟨d, s, m, e _ _ h1, r⟩
theorem Deal.ne {H : Hp} {a b : Addr} {n : Int} (h : Deal H a n) (e : H b = none) : b ≠ a := fun z => by
  obtain ⟨d, s, m, h1, r⟩ := h
  rw [z, h1] at e; cases e
theorem dl_nat {x : Int} {n : Nat} (h0 : 0 ≤ x) (h1 : x < ((2 ^ n : Nat) : Int)) : x.natAbs < 2 ^ n := by omega
theorem dl_bit (b : Bool) : (if b = true then (1 : Int) else 0).natAbs < 2 ^ 2 ∧ (0 : Int) ≤ (if b = true then (1 : Int) else 0) := by cases b <;> exact ⟨by decide, by decide⟩
theorem dl_prime {m : Int} (h0 : 0 ≤ m) : ∃ v : Int, atI [V.int 2147483647, V.int 2147483629, V.int 2147483587, V.int 2147483579, V.int 2147483563, V.int 2147483549, V.int 2147483543, V.int 2147483497] (m % 8) = some (.int v) ∧ 0 < v ∧ v < 2 ^ 31 := by
  have h : m % 8 = 0 ∨ m % 8 = 1 ∨ m % 8 = 2 ∨ m % 8 = 3 ∨ m % 8 = 4 ∨ m % 8 = 5 ∨ m % 8 = 6 ∨ m % 8 = 7 := by omega
  rcases h with h | h | h | h | h | h | h | h <;> rw [h] <;> exact ⟨_, rfl, by decide, by decide⟩
set_option exponentiation.threshold 2000
section
variable {P : Program} {w : World} {K : PySem.W.Frag} {mg : Str → Option Value} {base : Heap}
def sp_L_start_draws (K : PySem.W.Frag) : Sp := fun vs H Q _ => ∃ (a : Addr) (ns : List Int) (pl : Nat), vs = [.ref a, .int (pl : Int)] ∧ SqL K H a (ns.map V.int) ∧ pl ≤ 62 ∧ ∀ H' p, Same H H' → H p = none → Deal H' p 0 → Q (.ref p) H'
theorem ok_L_start_draws (TX : Tx K mg) : FnOk P w K mg base CX0 1 TX.a_L_start_draws TX.fd_L_start_draws ["_law_script", "_law_nth"] (sp_L_start_draws K) := by
  refine TX.f_L_start_draws.ok sc_L_start_draws (fun vs H Q E h => ?_) (fun cdv A outer s H vs Q E hr h => ?_)
  · obtain ⟨a, ns, pl, rfl, _⟩ := h; rfl
  · obtain ⟨a, ns, pl, rfl, hS, hpl, q⟩ := h
    refine ⟨_, (pss_cons (ps_set (i := 2) sc_L_start_draws.nd rfl (.inl rfl) (pe_ifExp (pt_cmpR op_lt (pv 1) (pe_callB (id := "len") (k_len (K := K) rfl) (by rfl) TX.b_len (by decide +kernel) (pa_cons (pv 0) pa_nil)) (nomark _)) (pe_ix (k_ixL (K := K) rfl) (pv 0) (pv 1) (fun _ _ => rfl)) pe_int))
      (pss_cons (ps_set (i := 3) sc_L_start_draws.nd rfl (.inl rfl) (pe_op op_mulW (pe_op op_mod (pe_callB (id := "abs") call_abs (by rfl) TX.b_abs (by decide +kernel) (pa_cons (pv 2) pa_nil)) (pe_op op_powW (pe_op op_powW pe_int pe_int) pe_int)) (pe_callTy (T := "int") call_int1 (by rfl) TX.b_int (by decide +kernel) (pa_cons (pe_cmpR op_ge (pe_callB (id := "abs") call_abs (by rfl) TX.b_abs (by decide +kernel) (pa_cons (pv 2) pa_nil)) (pe_op op_powW pe_int pe_int) (nomark _)) pa_nil))))
      (pss_one (ps_ret (pe_lst (pa_cons (pv 3) (pa_cons (pe_op op_add (pe_op op_add (pe_op op_mod (pv 2) pe_int) (pe_op op_mulW pe_int (pv 1))) pe_int) (pa_cons pe_int pa_nil)))))))), ?_⟩
    have P0 : (0 : Int) < (10 ^ (60 : Int).toNat) ^ (5 : Int).toNat := by decide +kernel
    have P1 : ((10 ^ (60 : Int).toNat) ^ (5 : Int).toNat : Int) < ((2 ^ 1000 : Nat) : Int) := by decide +kernel
    refine ⟨_, rfl, .ref a, rfl, a, _, rfl, .inl hS, _, _, rfl, rfl, _, rfl, ite2 (fun h => ?_) (fun h => ?_)⟩
    · have hlt : pl < ns.length := by
        have := of_decide_eq_true h
        rw [List.length_map] at this
        omega
      refine ⟨.ref a, rfl, _, rfl, a, _, _, .int ns[pl], rfl, rfl, hS, atI_nat (by rw [List.getElem?_map, List.getElem?_eq_getElem hlt]; rfl), ?_⟩
      have c0 := Int.emod_nonneg (ns[pl]) (show (2305843009213693951 : Int) ≠ 0 by decide)
      have c1 := Int.emod_lt_of_pos (ns[pl]) (show (0 : Int) < 2305843009213693951 by decide)
      refine ⟨_, rfl, _, rfl, _, _, rfl, rfl, ⟨by decide, by decide +kernel⟩, _, _, rfl, rfl, ⟨by decide, by decide +kernel⟩, _, _, rfl, rfl, P0, _, rfl, _, rfl, _, _, rfl, rfl, ⟨by decide, by decide +kernel⟩, _, _, rfl, rfl, .inr ⟨_, rfl, _, _, rfl, rfl, ?_, ?_⟩⟩
      · exact wide_mul (a := 1000) (b := 2) (dl_nat (Int.emod_nonneg _ (Int.ne_of_gt P0)) (Int.lt_trans (Int.emod_lt_of_pos _ P0) P1)) (dl_bit _).1 (by decide) (by decide) (by decide)
      · refine ⟨_, rfl, _, rfl, _, _, rfl, rfl, (show (0 : Int) < 2305843009213693951 by decide), _, rfl, _, _, rfl, rfl, wide_mul (a := 17) (b := 7) (by decide) (by omega) (by decide) (by decide) (by decide), _, _, rfl, rfl, _, _, rfl, rfl, sz60 (by simp), fun p np => q _ p (same_upd np) np ⟨_, _, _, upd_same, Int.mul_nonneg (Int.emod_nonneg _ (Int.ne_of_gt P0)) (dl_bit _).2, by omega, by omega, by decide, by decide⟩⟩
    · show tSeq _ _ _ _ _
      have c0 := Int.emod_nonneg (0) (show (2305843009213693951 : Int) ≠ 0 by decide)
      refine ⟨_, rfl, _, rfl, _, _, rfl, rfl, ⟨by decide, by decide +kernel⟩, _, _, rfl, rfl, ⟨by decide, by decide +kernel⟩, _, _, rfl, rfl, P0, _, rfl, _, rfl, _, _, rfl, rfl, ⟨by decide, by decide +kernel⟩, _, _, rfl, rfl, .inr ⟨_, rfl, _, _, rfl, rfl, ?_, ?_⟩⟩
      · exact wide_mul (a := 1000) (b := 2) (dl_nat (Int.emod_nonneg _ (Int.ne_of_gt P0)) (Int.lt_trans (Int.emod_lt_of_pos _ P0) P1)) (dl_bit _).1 (by decide) (by decide) (by decide)
      · refine ⟨_, rfl, _, rfl, _, _, rfl, rfl, (show (0 : Int) < 2305843009213693951 by decide), _, rfl, _, _, rfl, rfl, wide_mul (a := 17) (b := 7) (by decide) (by omega) (by decide) (by decide) (by decide), _, _, rfl, rfl, _, _, rfl, rfl, sz60 (by simp), fun p np => q _ p (same_upd np) np ⟨_, _, _, upd_same, Int.mul_nonneg (Int.emod_nonneg _ (Int.ne_of_gt P0)) (dl_bit _).2, by omega, by omega, by decide, by decide⟩⟩
def sp_L_next (K : PySem.W.Frag) : Sp := fun vs H Q _ => ∃ (a : Addr) (z n : Int), vs = [.ref a, .int z] ∧ Deal H a n ∧ n ≤ 100000 ∧ 1 ≤ z ∧ z ≤ 1000000 ∧ ∀ H' r, But a H H' → Deal H' a (n + 1) → 0 ≤ r → r < z → Q (.int r) H'
theorem ok_L_next (TX : Tx K mg) : FnOk P w K mg base CX0 1 TX.a_L_next TX.fd_L_next ["_law_deal", "_law_upto"] (sp_L_next K) := by
  refine TX.f_L_next.ok sc_L_next (fun vs H Q E h => ?_) (fun cdv A outer s H vs Q E hr h => ?_)
  · obtain ⟨a, z, n, rfl, _⟩ := h; rfl
  · obtain ⟨a, z, n, rfl, ⟨d, sd, m, hp, hd, hs0, hs1, hm0, hm1⟩, hn, hz1, hz2, q⟩ := h
    refine ⟨_, (pss_cons (ps_if (pt_cmpR op_gt (pe_ix (k_ixL (K := K) rfl) (pv 0) pe_int (fun _ _ => rfl)) pe_int (nomark _))
        (pss_cons (ps_set (i := 2) sc_L_next.nd rfl (.inl rfl) (pe_op op_mod (pe_ix (k_ixL (K := K) rfl) (pv 0) pe_int (fun _ _ => rfl)) (pv 1)))
        (pss_cons (ps_asg (pe_op op_fdivW (pe_ix (k_ixL (K := K) rfl) (pv 0) pe_int (fun _ _ => rfl)) (pv 1)) (pg_sub (pv 0) pe_int set_list))
        (pss_one (ps_ret (pv 2)))))
        pss_nil)
      (pss_cons (ps_asg (pe_op op_add (pe_ix (k_ixL (K := K) rfl) (pv 0) pe_int (fun _ _ => rfl)) pe_int) (pg_sub (pv 0) pe_int set_list))
      (pss_cons (ps_set (i := 3) sc_L_next.nd rfl (.inl rfl) (pe_lst (pa_cons pe_int (pa_cons pe_int (pa_cons pe_int (pa_cons pe_int (pa_cons pe_int (pa_cons pe_int (pa_cons pe_int (pa_cons pe_int pa_nil))))))))))
      (pss_cons (ps_set (i := 4) sc_L_next.nd rfl (.inl rfl) (pe_ix (k_ixL (K := K) rfl) (pv 3) (pe_op op_mod (pe_ix (k_ixL (K := K) rfl) (pv 0) pe_int (fun _ _ => rfl)) pe_int) (fun _ _ => rfl)))
      (pss_cons (ps_set (i := 5) sc_L_next.nd rfl (.inl rfl) (pe_op op_add (pe_op op_mod (pe_op op_mod (pe_op op_add (pe_ix (k_ixL (K := K) rfl) (pv 0) pe_int (fun _ _ => rfl)) (pe_op op_mulW (pe_op op_mulW pe_int (pe_ix (k_ixL (K := K) rfl) (pv 0) pe_int (fun _ _ => rfl))) (pe_ix (k_ixL (K := K) rfl) (pv 0) pe_int (fun _ _ => rfl)))) (pe_op op_pow (pv 4) pe_int)) (pv 4)) pe_int))
      (pss_one (ps_ret (pe_op op_mod (pe_op op_fdivW (pe_op op_mod (pe_op op_mulW (pv 5) (pe_op op_add (pe_op op_mod (pv 5) pe_int) (pe_ix (k_ixL (K := K) rfl) (pv 0) pe_int (fun _ _ => rfl)))) (pv 4)) pe_int) (pv 1))))))))), ?_⟩
    refine ⟨.ref a, rfl, a, _, _, .int d, rfl, rfl, .inl (.inl hp), rfl, _, _, rfl, rfl, _, rfl, ite2 (fun h => ?_) (fun h => ?_)⟩
    · refine ⟨.ref a, rfl, a, _, _, .int d, rfl, rfl, .inl (.inl hp), rfl, _, rfl, _, _, rfl, rfl, (show 0 < z by omega), ?_⟩
      refine ⟨.ref a, rfl, a, _, _, .int d, rfl, rfl, .inl (.inl hp), rfl, _, rfl, _, _, rfl, rfl, wide_div (b := 20) (by omega) (by omega) (by decide) (by decide), .ref a, rfl, a, _, 0, 0, rfl, rfl, hp, rfl, ?_⟩
      refine ⟨_, rfl, q _ _ But.upd ⟨d / z, sd, m, upd_same, Int.ediv_nonneg hd (by omega), hs0, hs1, hm0, by omega⟩ (Int.emod_nonneg _ (by omega)) (Int.emod_lt_of_pos _ (by omega))⟩
    · refine ⟨.ref a, rfl, a, _, _, .int m, rfl, rfl, .inl (.inl hp), rfl, _, _, rfl, rfl, .ref a, rfl, a, _, 2, 2, rfl, rfl, hp, rfl, ?_⟩
      have hp1 : (upd H a (.lst (List.set [V.int d, V.int sd, V.int m] 2 (V.int (m + 1))))) a = some (.lst [V.int d, V.int sd, V.int (m + 1)]) := upd_same
      have b1 : But a H (upd H a (.lst (List.set [V.int d, V.int sd, V.int m] 2 (V.int (m + 1))))) := But.upd
      generalize upd H a (.lst (List.set [V.int d, V.int sd, V.int m] 2 (V.int (m + 1)))) = H1 at hp1 b1 ⊢
      refine ⟨sz60 (by simp), fun pl npl => ?_⟩
      have s2 := same_upd (o := .lst [V.int 2147483647, V.int 2147483629, V.int 2147483587, V.int 2147483579, V.int 2147483563, V.int 2147483549, V.int 2147483543, V.int 2147483497]) npl
      have hp2 := s2 _ _ hp1
      obtain ⟨pr, hpr, pr0, pr1⟩ := dl_prime (m := m + 1) (by omega)
      refine ⟨_, rfl, .ref a, rfl, a, _, _, .int (m + 1), rfl, rfl, .inl (.inl hp2), rfl, _, _, rfl, rfl, (show (0 : Int) < 8 by decide), pl, _, _, .int pr, rfl, rfl, .inl (.inl upd_same), hpr, ?_⟩
      have k1 : (m + 1) * (m + 1) ≤ 100001 * 100001 := Int.mul_le_mul (by omega) (by omega) (by omega) (by omega)
      have k2 : (0 : Int) ≤ (m + 1) * (m + 1) := Int.mul_nonneg (by omega) (by omega)
      have p20 : (0 : Int) < pr ^ (2 : Int).toNat := Int.pow_pos pr0
      refine ⟨.ref a, rfl, a, _, _, .int sd, rfl, rfl, .inl (.inl hp2), rfl, .ref a, rfl, a, _, _, .int (m + 1), rfl, rfl, .inl (.inl hp2), rfl, _, _, rfl, rfl, wide_mul (a := 17) (b := 18) (by decide) (by omega) (by decide) (by decide) (by decide), .ref a, rfl, a, _, _, .int (m + 1), rfl, rfl, .inl (.inl hp2), rfl, _, _, rfl, rfl, wide_mul (a := 36) (b := 18) (by omega) (by omega) (by decide) (by decide) (by decide), _, _, rfl, rfl, _, rfl, _, _, rfl, rfl, ⟨by decide, by decide, by omega⟩, _, _, rfl, rfl, p20, _, rfl, _, _, rfl, rfl, pr0, _, _, rfl, rfl, ?_⟩
      generalize hmx : (sd + 69621 * (m + 1) * (m + 1)) % pr ^ (2 : Int).toNat % pr + 1 = mx
      have mx0 : 0 ≤ mx := by
        have := Int.emod_nonneg ((sd + 69621 * (m + 1) * (m + 1)) % pr ^ (2 : Int).toNat) (show pr ≠ 0 by omega)
        omega
      have mx1 : mx ≤ pr := by
        have := Int.emod_lt_of_pos ((sd + 69621 * (m + 1) * (m + 1)) % pr ^ (2 : Int).toNat) pr0
        omega
      refine ⟨_, rfl, _, rfl, _, _, rfl, rfl, (show (0 : Int) < 1009 by decide), .ref a, rfl, a, _, _, .int (m + 1), rfl, rfl, .inl (.inl hp2), rfl, _, _, rfl, rfl, _, _, rfl, rfl, wide_mul (a := 32) (b := 18) (by omega) (by omega) (by decide) (by decide) (by decide), _, rfl, _, _, rfl, rfl, pr0, _, _, rfl, rfl, wide_div (b := 3) (by decide) (by decide) (by decide) (by decide), _, rfl, _, _, rfl, rfl, (show 0 < z by omega), ?_⟩
      exact q _ _ (b1.trans (But.of s2)) ⟨d, sd, m + 1, hp2, hd, hs0, hs1, by omega, by omega⟩ (Int.emod_nonneg _ (by omega)) (Int.emod_lt_of_pos _ (by omega))
def sp_L_pick (K : PySem.W.Frag) : Sp := fun vs H Q _ => ∃ (a l : Addr) (xs : List V) (n : Int), vs = [.ref a, .ref l] ∧ Deal H a n ∧ n ≤ 100000 ∧ H l = some (.lst xs) ∧ l ≠ a ∧ xs ≠ [] ∧ xs.length ≤ 1000 ∧ ∀ H' v, But a H H' → Deal H' a (n + 1) → v ∈ xs → Q v H'
theorem ok_L_pick (TX : Tx K mg) : FnOk P w K mg base CX0 2 TX.a_L_pick TX.fd_L_pick ["_law_deal", "_law_some"] (sp_L_pick K) := by
  refine TX.f_L_pick.ok sc_L_pick (fun vs H Q E h => ?_) (fun cdv A outer s H vs Q E hr h => ?_)
  · obtain ⟨a, l, xs, n, rfl, _⟩ := h; rfl
  · obtain ⟨a, l, xs, n, rfl, hp, hn, hl, nla, hne, hlen, q⟩ := h
    refine ⟨_, (pss_one (ps_ret (pe_ix (k_ixL (K := K) rfl) (pv 1) (pe_call (ok_L_next TX) (hr.mono (by decide)) (by rfl) TX.g_L_next TX.f_L_next.kp TX.bd_L_next .nil pass0 (pa_cons (pv 0) (pa_cons (pe_callB (id := "len") (k_len (K := K) rfl) (by rfl) TX.b_len (by decide +kernel) (pa_cons (pv 1) pa_nil)) pa_nil))) (fun _ _ => rfl)))), ?_⟩
    have h0 : 0 < xs.length := List.length_pos_iff.mpr hne
    refine ⟨.ref l, rfl, .ref a, rfl, .ref l, rfl, l, _, rfl, .inl (.inl (.inl hl)), a, _, n, rfl, hp, hn, by omega, by omega, fun H' r b1 p1 r0 r1 => ?_⟩
    have er : r = ((r.toNat : Nat) : Int) := by omega
    have hr1 : r.toNat < xs.length := by omega
    have hat : atI xs r = some xs[r.toNat] := by
      have := atI_nat (List.getElem?_eq_getElem hr1)
      rwa [← er] at this
    exact ⟨l, xs, r, xs[r.toNat], rfl, rfl, .inl (.inl (b1 _ _ nla hl)), hat, q _ _ b1 p1 (List.getElem_mem ..)⟩
end
def keyOkS (z : Str) : Bool := (decide (1 ≤ z.length) && decide (z.length ≤ 8)) && z.cps.toList.all fun c => (!decide ([c] < ("a" : Str).cps.toList)) && !decide (("z" : Str).cps.toList < [c])
theorem walk_str {z : Str} : Walk (Its z) z.cps.size (fun _ => True) (fun i H x H' => H' = H ∧ ∃ c, z.cps[i]? = some c ∧ x = .str ⟨#[c]⟩) :=
  ⟨fun _ _ h _ => h, fun _ _ => Nat.le_refl _, fun _ _ _ _ _ _ y => y⟩
theorem boolsI {K : PySem.W.Frag} {H : Hp} : ∀ {vs : List V} {bs : List Bool}, DpAll K H vs (bs.map PyData.bool) → vs = bs.map V.bl
  | _, [], .nil => rfl
  | _, _ :: _, .cons a b => by
    cases a
    rw [boolsI b]; rfl
theorem rep_all (n : Nat) : (List.replicate n true).all id = true := by simp
section
variable {P : Program} {w : World} {K : PySem.W.Frag} {mg : Str → Option Value} {base : Heap}
def sp_is_key (K : PySem.W.Frag) : Sp := fun vs H Q _ => ∃ z : Str, vs = [.str z] ∧ keyOkS z = true ∧ ∀ H', Same H H' → Q (.bl true) H'
theorem ok_is_key (TX : Tx K mg) : FnOk P w K mg base CX0 1 TX.a_is_key TX.fd_is_key ["value"] (sp_is_key K) := by
  refine TX.f_is_key.ok sc_is_key (fun vs H Q E h => ?_) (fun cdv A outer s H vs Q E hr h => ?_)
  · obtain ⟨z, rfl, _⟩ := h; rfl
  · obtain ⟨z, rfl, hk, q⟩ := h
    refine ⟨_, (pss_cons (ps_if (PW.pt (pw_or (pt_not (pt_val (pe_callB (id := "isinstance") (k_isi (K := K) rfl) (by rfl) TX.b_isinstance (by decide +kernel) (pa_cons (pv 0) (pa_cons (pe_bltn (v := .ty "str") (by rfl) TX.b_str (by decide +kernel) rfl) pa_nil))))) (pw_or1 (pt_not (pt_chain op_le op_le pe_int (pe_callB (id := "len") call_len_str (by rfl) TX.b_len (by decide +kernel) (pa_cons (pv 0) pa_nil)) (pe_glob (v := .int (8)) (by rfl) TX.c_MOST_LETTERS ⟨_, rfl⟩))))))
        (pss_one (ps_ret pe_bl))
        pss_nil)
      (pss_one (ps_ret (pe_callB (id := "all") (cr_all rfl) (by rfl) TX.b_all (by decide +kernel) (pa_cons (pe_lc (own := [("letter", 1)]) (by rfl) sc_is_key.nd (pi_str (pv 0)) (blkOk_by (own := [("letter", 1)]) (N := N_is_key) (sc := defScope s_is_key) (by decide +kernel)) (fun _ _ _ _ _ => (pg_name (i := 1) sc_is_key.nd rfl (Or.inl rfl))) (fun _ _ _ _ _ => pts_nil) (fun _ _ _ _ _ => (pe_chain op_le_str op_le_str pe_str (pv 1) pe_str))) pa_nil))))), ?_⟩
    unfold keyOkS at hk
    simp only [Bool.and_eq_true, decide_eq_true_eq] at hk
    obtain ⟨⟨h1, h2⟩, h3⟩ := hk
    have h4 : z.cps.size = z.length := rfl
    refine ⟨.str z, rfl, .str z, .ty "str", .type "str", .type "str", true, rfl, .ty _, .base (.str z), kit_ty (by decide +kernel), true, rfl, iteF ?_⟩
    refine ⟨.str z, rfl, z, rfl, Nat.le_trans h2 (by decide), 1, _, rfl, rfl, _, rfl, decT (by omega) ⟨_, _, rfl, rfl, _, rfl, ?_⟩⟩
    refine iteB0 (by rw [decide_eq_true (by omega)]; rfl) ?_
    refine ⟨.str z, rfl, z, rfl, fun D nD => ?_⟩
    refine lc_all (K := K) walk_str ((List.replicate z.length true).map PyData.bool) (by simp [h4]) (fun d h => by obtain ⟨b, _, rfl⟩ := List.mem_map.mp h; exact .bl b) (by omega) nD (fun _ _ => trivial) ?_ ?_ (fun x σ' H' Q Q' h => h _ _) (fun σ' H' Q Q' h => h _ _)
    · rintro i x Hx Hx' hi sx ⟨rfl, c, hc, rfl⟩ d hd R hR
      have hmem : c ∈ z.cps.toList := by
        rw [Array.mem_toList_iff]
        exact Array.mem_of_getElem? hc
      have h5 := List.all_eq_true.mp h3 c hmem
      simp only [Bool.and_eq_true] at h5
      have hd2 : d = .bool true := by
        rw [List.getElem?_map, List.getElem?_replicate, if_pos (by omega)] at hd
        exact (Option.some.inj hd).symm
      subst hd2
      refine ⟨rfl, rfl, _, rfl, _, _, rfl, rfl, _, rfl, iteB1 h5.1 ⟨_, _, rfl, rfl, ?_⟩⟩
      have e2 : (!decide (("z" : Str).cps.toList < (⟨#[c]⟩ : Str).cps.toList)) = true := h5.2
      rw [e2]
      exact hR _ _ (Same.refl _) (.bl true)
    intro H2 acc s2 ha hAcc
    rw [boolsI hAcc] at ha
    refine ⟨D, List.replicate z.length true, rfl, .inl (.inl ha), ?_⟩
    rw [rep_all]
    exact q _ s2
def sp_check_key (K : PySem.W.Frag) : Sp := fun vs H Q _ => ∃ z : Str, vs = [.str z] ∧ keyOkS z = true ∧ ∀ H', Same H H' → Q .non H'
theorem ok_check_key (TX : Tx K mg) : FnOk P w K mg base CX0 3 TX.a_check_key TX.fd_check_key ["key"] (sp_check_key K) := by
  refine TX.f_check_key.ok sc_check_key (fun vs H Q E h => ?_) (fun cdv A outer s H vs Q E hr h => ?_)
  · obtain ⟨z, rfl, _⟩ := h; rfl
  · obtain ⟨z, rfl, hk, q⟩ := h
    refine ⟨_, (pss_one (ps_if (pt_not (pt_val (pe_call (ok_is_key TX) (hr.mono (by decide)) (by rfl) TX.g_is_key TX.f_is_key.kp TX.bd_is_key .nil pass0 (pa_cons (pv 0) pa_nil))))
        (pss_one ps_never)
        pss_nil)), ?_⟩
    exact ⟨.str z, rfl, z, rfl, hk, fun H' s' => ⟨true, rfl, iteF (q _ s')⟩⟩
/-- a policy: its name and its numbers -/
def PolN (nm : Str) (ks : List Int) : Prop := ((nm = "manual" ∧ ks.length = 0) ∨ (nm = "runs" ∧ ks.length = 1) ∨ (nm = "budget" ∧ ks.length = 2)) ∧ ∀ k, k ∈ ks → 1 ≤ k ∧ k ≤ 60
def polV (nm : Str) (ks : List Int) : List V := V.str nm :: ks.map V.int
theorem pol_kd (TX : Tx K mg) [h : WP w TX] {nm : Str} {ks : List Int} (hp : PolN nm ks) : ∃ r, PySem.W.nsIn K TX.d_POLICIES nm = some r ∧ r.isSome = true ∧ KDct K w TX.d_POLICIES nm (.int (ks.length : Int)) := by
  obtain ⟨hp, _⟩ := hp
  rcases hp with ⟨rfl, e⟩ | ⟨rfl, e⟩ | ⟨rfl, e⟩
  · obtain ⟨t, ht⟩ := TX.ke_POLICIES_manual
    refine ⟨_, ht, rfl, ?_⟩
    rw [e]; exact kv_POLICIES_manual TX
  · obtain ⟨t, ht⟩ := TX.ke_POLICIES_runs
    refine ⟨_, ht, rfl, ?_⟩
    rw [e]; exact kv_POLICIES_runs TX
  · obtain ⟨t, ht⟩ := TX.ke_POLICIES_budget
    refine ⟨_, ht, rfl, ?_⟩
    rw [e]; exact kv_POLICIES_budget TX
def sp_is_policy (K : PySem.W.Frag) : Sp := fun vs H Q _ => ∃ (a : Addr) (nm : Str) (ks : List Int), vs = [.ref a] ∧ SqT K H a (polV nm ks) ∧ PolN nm ks ∧ ∀ H', Same H H' → Q (.bl true) H'
theorem ok_is_policy (TX : Tx K mg) [WP w TX] : FnOk P w K mg base CX0 4 TX.a_is_policy TX.fd_is_policy ["value"] (sp_is_policy K) := by
  refine TX.f_is_policy.ok sc_is_policy (fun vs H Q E h => ?_) (fun cdv A outer s H vs Q E hr h => ?_)
  · obtain ⟨a, nm, ks, rfl, _⟩ := h; rfl
  · obtain ⟨a, nm, ks, rfl, hS, hp, q⟩ := h
    refine ⟨_, (pss_cons (ps_if (PW.pt (pw_or (pt_not (pt_val (pe_callB (id := "isinstance") (k_isi (K := K) rfl) (by rfl) TX.b_isinstance (by decide +kernel) (pa_cons (pv 0) (pa_cons (pe_bltn (v := .ty "tuple") (by rfl) TX.b_tuple (by decide +kernel) rfl) pa_nil))))) (pw_or (pt_cmpR op_eq (pe_callB (id := "len") (k_len (K := K) rfl) (by rfl) TX.b_len (by decide +kernel) (pa_cons (pv 0) pa_nil)) pe_int (nomark _)) (pw_or1 (pt_not (pt_val (pe_callB (id := "isinstance") (k_isi (K := K) rfl) (by rfl) TX.b_isinstance (by decide +kernel) (pa_cons (pe_ix (k_ixT (K := K) rfl) (pv 0) pe_int (fun _ _ => rfl)) (pa_cons (pe_bltn (v := .ty "str") (by rfl) TX.b_str (by decide +kernel) rfl) pa_nil)))))))))
        (pss_one (ps_ret pe_bl))
        pss_nil)
      (pss_cons (ps_if (PW.pt (pw_or (pt_cmpR (op_notIn_kd (kd_POLICIES (w := w) TX)) (pe_ix (k_ixT (K := K) rfl) (pv 0) pe_int (fun _ _ => rfl)) (pe_glob (v := .ref TX.d_POLICIES) (by rfl) TX.gd_POLICIES rfl) (by rfl)) (pw_or1 (pt_cmpR op_ne (pe_callB (id := "len") (k_len (K := K) rfl) (by rfl) TX.b_len (by decide +kernel) (pa_cons (pv 0) pa_nil)) (pe_op op_add pe_int (pe_ix ix_kdict (pe_glob (v := .ref TX.d_POLICIES) (by rfl) TX.gd_POLICIES rfl) (pe_ix (k_ixT (K := K) rfl) (pv 0) pe_int (fun _ _ => rfl)) (fun _ _ => rfl))) (nomark _)))))
        (pss_one (ps_ret pe_bl))
        pss_nil)
      (pss_one (ps_ret (pe_callB (id := "all") (cr_all rfl) (by rfl) TX.b_all (by decide +kernel) (pa_cons (pe_lc (own := [("budget", 1)]) (by rfl) sc_is_policy.nd (k_piT (K := K) rfl (pe_slice (k_slT (K := K) rfl) (pv 0) (po_some pe_int) po_none)) (blkOk_by (own := [("budget", 1)]) (N := N_is_policy) (sc := defScope s_is_policy) (by decide +kernel)) (fun _ _ _ _ _ => (pg_name (i := 1) sc_is_policy.nd rfl (Or.inl rfl))) (fun _ _ _ _ _ => pts_nil) (fun _ _ _ _ _ => (pe_and (pe_call (ok_is_count_up_to TX) (hr.mono (by decide)) (by rfl) TX.g_is_count_up_to TX.f_is_count_up_to.kp TX.bd_is_count_up_to .nil pass0 (pa_cons (pv 1) (pa_cons (pe_glob (v := .int (60)) (by rfl) TX.c_MOST_BUDGET ⟨_, rfl⟩) pa_nil))) (pe_one (pe_cmpR op_gt (pv 1) pe_int (nomark _)))))) pa_nil)))))), ?_⟩
    obtain ⟨r, hr1, hr2, hr3⟩ := pol_kd (w := w) TX hp
    have hl : (polV nm ks).length = ks.length + 1 := by simp [polV]
    have h0 : atI (polV nm ks) 0 = some (.str nm) := atI_nat (j := 0) rfl
    have hk2 : ks.length ≤ 2 := by rcases hp.1 with ⟨_, e⟩ | ⟨_, e⟩ | ⟨_, e⟩ <;> omega
    refine ⟨.ref a, rfl, .ref a, .ty "tuple", .type "tuple", .type "tuple", true, rfl, .ty _, ty_tup hS, kit_ty (by decide +kernel), true, rfl, iteF ?_⟩
    refine ⟨.ref a, rfl, a, _, rfl, .inr hS, rfl, _, rfl, decF (fun z => by have := V.int.inj z; rw [hl] at this; omega) ?_⟩
    refine ⟨.ref a, rfl, a, _, 0, _, rfl, rfl, hS, h0, .str nm, .ty "str", .type "str", .type "str", true, rfl, .ty _, .base (.str nm), kit_ty (by decide +kernel), true, rfl, iteF ?_⟩
    refine ⟨.ref a, rfl, a, _, 0, _, rfl, rfl, hS, h0, nm, r, rfl, rfl, hr1, _, rfl, iteB0 (by rw [hr2]; rfl) ?_⟩
    refine ⟨.ref a, rfl, a, _, rfl, .inr hS, .ref a, rfl, a, _, 0, _, rfl, rfl, hS, h0, TX.d_POLICIES, nm, .int (ks.length : Int), rfl, rfl, hr3, _, _, rfl, rfl, rfl, _, rfl, ?_⟩
    have e1 : V.int ((polV nm ks).length : Int) = V.int (1 + (ks.length : Int)) := by rw [hl]; congr 1; omega
    refine iteB0 (by rw [decide_eq_true e1]; rfl) ?_
    refine ⟨.ref a, rfl, _, rfl, ?_⟩
    dsimp only [tNoPart]
    refine sl_read hS fun c H1 s1 hc => ?_
    have ec : cutV (polV nm ks) (some 1) none = ks.map V.int := by
      have := cut_from (xs := polV nm ks) (k := 1) (by rw [hl]; omega)
      rw [show (some (1 : Int) : Option Int) = some ((1 : Nat) : Int) from rfl, this]
      rfl
    rw [ec] at hc
    refine ⟨c, rfl, ⟨_, hc⟩, fun D nD => ?_⟩
    refine lc_all (K := K) walk_tup ((List.replicate ks.length true).map PyData.bool) (by simp) (fun d h => by obtain ⟨b, _, rfl⟩ := List.mem_map.mp h; exact .bl b) (by simp; omega) nD (fun H' s' => Same.tup s' hc) ?_ ?_ (fun x σ' H' Q Q' h => h _ _) (fun σ' H' Q Q' h => h _ _)
    · rintro i x Hx Hx' hi sx ⟨rfl, hx⟩ d hd R hR
      rw [List.getElem?_map] at hx
      cases hk : ks[i]? with
      | none => rw [hk] at hx; cases hx
      | some v =>
        rw [hk] at hx
        cases hx
        have hb := hp.2 v (List.mem_of_getElem? hk)
        have hd2 : d = .bool true := by
          rw [List.getElem?_map, List.getElem?_replicate, if_pos (by rw [List.length_map] at hi; exact hi)] at hd
          exact (Option.some.inj hd).symm
        subst hd2
        refine ⟨rfl, rfl, _, rfl, v, 60, rfl, true, ?_⟩
        refine ⟨by rw [decide_eq_true (show 0 ≤ v by omega), decide_eq_true hb.2]; rfl, iteT ⟨_, rfl, _, _, rfl, rfl, ?_⟩⟩
        have e0 : decide ((0 : Int) < v) = true := decide_eq_true (by omega)
        show R (V.bl (decide ((0 : Int) < v))) Hx'
        rw [e0]
        exact hR _ _ (Same.refl _) (.bl true)
    intro H2 acc s2 ha hAcc
    rw [boolsI hAcc] at ha
    refine ⟨D, List.replicate ks.length true, rfl, .inl (.inl ha), ?_⟩
    rw [rep_all]
    exact q _ (s1.trans s2)
end
section
variable {K : PySem.W.Frag} {C : Addr} {H : Hp} {s : St} {pol : List V} {t : T} {L : List (List (Key × V))} {kvs : List (Key × V)} {hs : List V} {n : Int}
theorem f_rule (a : StAt K C H s pol t L kvs hs n) (c : Cls K C) (na : NoAttr K C "rule") {Q : V → Prop} (q : ∀ r, SqT K H r pol → Q (.ref r)) : ∃ a' C' dx fs v, V.ref s.p = V.ref a' ∧ H a' = some (.ins C' dx fs) ∧ Cls K C' ∧ NoAttr K C' "rule" ∧ fs.lookup ("rule" : Str) = some v ∧ Q v := by
  obtain ⟨dx, r, e1, e2⟩ := a.ex
  exact ⟨_, _, _, _, _, rfl, e1, c, na, lk_rule .., q r e2⟩
theorem f_merges (a : StAt K C H s pol t L kvs hs n) (c : Cls K C) (na : NoAttr K C "merges") {Q : V → Prop} (q : Q (.ref s.m)) : ∃ a' C' dx fs v, V.ref s.p = V.ref a' ∧ H a' = some (.ins C' dx fs) ∧ Cls K C' ∧ NoAttr K C' "merges" ∧ fs.lookup ("merges" : Str) = some v ∧ Q v := by
  obtain ⟨dx, r, e1, e2⟩ := a.ex
  exact ⟨_, _, _, _, _, rfl, e1, c, na, lk_merges .., q⟩
theorem f_batches (a : StAt K C H s pol t L kvs hs n) (c : Cls K C) (na : NoAttr K C "batches") {Q : V → Prop} (q : Q (.ref s.b)) : ∃ a' C' dx fs v, V.ref s.p = V.ref a' ∧ H a' = some (.ins C' dx fs) ∧ Cls K C' ∧ NoAttr K C' "batches" ∧ fs.lookup ("batches" : Str) = some v ∧ Q v := by
  obtain ⟨dx, r, e1, e2⟩ := a.ex
  exact ⟨_, _, _, _, _, rfl, e1, c, na, lk_batches .., q⟩
theorem f_buffer (a : StAt K C H s pol t L kvs hs n) (c : Cls K C) (na : NoAttr K C "buffer") {Q : V → Prop} (q : Q (.ref s.d)) : ∃ a' C' dx fs v, V.ref s.p = V.ref a' ∧ H a' = some (.ins C' dx fs) ∧ Cls K C' ∧ NoAttr K C' "buffer" ∧ fs.lookup ("buffer" : Str) = some v ∧ Q v := by
  obtain ⟨dx, r, e1, e2⟩ := a.ex
  exact ⟨_, _, _, _, _, rfl, e1, c, na, lk_buffer .., q⟩
theorem f_history (a : StAt K C H s pol t L kvs hs n) (c : Cls K C) (na : NoAttr K C "history") {Q : V → Prop} (q : Q (.ref s.h)) : ∃ a' C' dx fs v, V.ref s.p = V.ref a' ∧ H a' = some (.ins C' dx fs) ∧ Cls K C' ∧ NoAttr K C' "history" ∧ fs.lookup ("history" : Str) = some v ∧ Q v := by
  obtain ⟨dx, r, e1, e2⟩ := a.ex
  exact ⟨_, _, _, _, _, rfl, e1, c, na, lk_history .., q⟩
theorem f_searched (a : StAt K C H s pol t L kvs hs n) (c : Cls K C) (na : NoAttr K C "searched") {Q : V → Prop} (q : Q (.int n)) : ∃ a' C' dx fs v, V.ref s.p = V.ref a' ∧ H a' = some (.ins C' dx fs) ∧ Cls K C' ∧ NoAttr K C' "searched" ∧ fs.lookup ("searched" : Str) = some v ∧ Q v := by
  obtain ⟨dx, r, e1, e2⟩ := a.ex
  exact ⟨_, _, _, _, _, rfl, e1, c, na, lk_searched .., q⟩
/-- a method is found -/
theorem f_meth (a : StAt K C H s pol t L kvs hs n) {m : Str} (e : (["rule", "merges", "batches", "buffer", "history", "searched"] : List Str).contains m = false) {Q : Prop} (q : Q) : ∃ a' dx fs, V.ref s.p = V.ref a' ∧ H a' = some (.ins C dx fs) ∧ fs.lookup m = none ∧ Q := by
  obtain ⟨dx, r, e1, e2⟩ := a.ex
  exact ⟨_, _, _, rfl, e1, lk_no _ _ _ _ _ _ e, q⟩
end
section
variable {P : Program} {w : World} {K : PySem.W.Frag} {mg : Str → Option Value} {base : Heap}
/-- a store made -/
def sp_Store___init__ (TX : Tx K mg) : Sp := fun vs H Q _ => ∃ (p dx r : Addr) (nm : Str) (ks : List Int), vs = [.ref p, .ref r] ∧ H p = some (.ins TX.C_Store dx []) ∧ SqT K H r (polV nm ks) ∧ PolN nm ks ∧
  ∀ H' s, s.p = p → s.ds = [] → H s.m = none → H s.b = none → H s.h = none → H s.d = none → ButL [p] H H' → StAt K TX.C_Store H' s (polV nm ks) .nil [] [] [] 0 → Q .non H'
theorem ok_Store___init__ (TX : Tx K mg) [WP w TX] : FnOk P w K mg base CX0 5 TX.a_Store___init__ TX.fd_Store___init__ ["self", "policy"] (sp_Store___init__ TX) := by
  refine TX.f_Store___init__.ok sc_Store___init__ (fun vs H Q E h => ?_) (fun cdv A outer s H vs Q E hr h => ?_)
  · obtain ⟨p, dx, r, nm, ks, rfl, _⟩ := h; rfl
  · obtain ⟨p, dx, r, nm, ks, rfl, hp, hS, hpol, q⟩ := h
    refine ⟨_, (pss_cons (ps_if (pt_not (pt_val (pe_call (ok_is_policy (w := w) TX) (hr.mono (by decide)) (by rfl) TX.g_is_policy TX.f_is_policy.kp TX.bd_is_policy .nil pass0 (pa_cons (pv 1) pa_nil))))
        (pss_one ps_never)
        pss_nil)
      (pss_cons (ps_fld (pv 0) (pv 1) rfl)
      (pss_cons (ps_fld (pv 0) (pe_lst pa_nil) rfl)
      (pss_cons (ps_fld (pv 0) (pe_lst pa_nil) rfl)
      (pss_cons (ps_fld (pv 0) pe_dnewK rfl)
      (pss_cons (ps_fld (pv 0) (pe_lst pa_nil) rfl)
      (pss_one (ps_fld (pv 0) pe_int rfl)))))))), ?_⟩
    refine ⟨.ref r, rfl, r, nm, ks, rfl, hS, hpol, fun H1 s1 => ⟨true, rfl, iteF ?_⟩⟩
    have hp1 := s1 _ _ hp
    have hS1 := Same.tup s1 hS
    refine ⟨_, rfl, _, rfl, p, TX.C_Store, dx, [], rfl, hp1, TX.cl_Store, TX.na_Store_rule, by show 0 < 1000; decide, ?_⟩
    rw [pp1]
    have g1 := upd_same (H := H1) (a := p) (o := .ins TX.C_Store dx (pf1 r))
    have b1 : ButL [p] H1 (upd H1 p (.ins TX.C_Store dx (pf1 r))) := .upd (by simp)
    generalize upd H1 p _ = G1 at g1 b1 ⊢
    refine ⟨sz60 (by simp), fun m hm0 => ?_⟩
    have w1 := same_upd (o := .lst []) hm0
    have m1 := upd_same (H := G1) (a := m) (o := .lst [])
    have npm : m ≠ p := fun e => by rw [e, g1] at hm0; cases hm0
    have hfm : H1 m = none := by cases e : H1 m with
      | none => rfl
      | some o => rw [b1 m o (by simp [npm]) e] at hm0; cases hm0
    have b2 := b1.trans (.of w1)
    have g2 := w1 _ _ g1
    generalize upd G1 m _ = G2 at b2 m1 g2 ⊢
    refine ⟨_, rfl, p, TX.C_Store, dx, _, rfl, g2, TX.cl_Store, TX.na_Store_merges, by show 1 < 1000; decide, ?_⟩
    rw [pp2]
    have g3 := upd_same (H := G2) (a := p) (o := .ins TX.C_Store dx (pf2 r m))
    have b3 : ButL [p] H1 (upd G2 p (.ins TX.C_Store dx (pf2 r m))) := b2.trans (.upd (by simp))
    have m3 : (upd G2 p (.ins TX.C_Store dx (pf2 r m))) m = some (.lst []) := by rw [upd_ne npm]; exact m1
    generalize upd G2 p _ = G3 at g3 b3 m3 ⊢
    refine ⟨sz60 (by simp), fun b hb0 => ?_⟩
    have w4 := same_upd (o := .lst []) hb0
    have b4' := upd_same (H := G3) (a := b) (o := .lst [])
    have npb : b ≠ p := fun e => by rw [e, g3] at hb0; cases hb0
    have nmb : m ≠ b := fun e => by rw [← e, m3] at hb0; cases hb0
    have hfb : H1 b = none := by cases e : H1 b with
      | none => rfl
      | some o => rw [b3 b o (by simp [npb]) e] at hb0; cases hb0
    have b4 := b3.trans (.of w4)
    have g4 := w4 _ _ g3
    have m4 := w4 _ _ m3
    generalize upd G3 b _ = G4 at b4 b4' g4 m4 ⊢
    refine ⟨_, rfl, p, TX.C_Store, dx, _, rfl, g4, TX.cl_Store, TX.na_Store_batches, by show 2 < 1000; decide, ?_⟩
    rw [pp3]
    have g5 := upd_same (H := G4) (a := p) (o := .ins TX.C_Store dx (pf3 r m b))
    have b5 : ButL [p] H1 (upd G4 p (.ins TX.C_Store dx (pf3 r m b))) := b4.trans (.upd (by simp))
    have m5 : (upd G4 p (.ins TX.C_Store dx (pf3 r m b))) m = some (.lst []) := by rw [upd_ne npm]; exact m4
    have c5 : (upd G4 p (.ins TX.C_Store dx (pf3 r m b))) b = some (.lst []) := by rw [upd_ne npb]; exact b4'
    generalize upd G4 p _ = G5 at g5 b5 m5 c5 ⊢
    intro d hd0
    have w6 := same_upd (o := .dK []) hd0
    have d6 := upd_same (H := G5) (a := d) (o := .dK [])
    have npd : d ≠ p := fun e => by rw [e, g5] at hd0; cases hd0
    have hfd : H1 d = none := by cases e : H1 d with
      | none => rfl
      | some o => rw [b5 d o (by simp [npd]) e] at hd0; cases hd0
    have b6 := b5.trans (.of w6)
    have g6 := w6 _ _ g5
    have m6 := w6 _ _ m5
    have c6 := w6 _ _ c5
    generalize upd G5 d _ = G6 at b6 d6 g6 m6 c6 ⊢
    refine ⟨_, rfl, p, TX.C_Store, dx, _, rfl, g6, TX.cl_Store, TX.na_Store_buffer, by show 3 < 1000; decide, ?_⟩
    rw [pp4]
    have g7 := upd_same (H := G6) (a := p) (o := .ins TX.C_Store dx (pf4 r m b d))
    have b7 : ButL [p] H1 (upd G6 p (.ins TX.C_Store dx (pf4 r m b d))) := b6.trans (.upd (by simp))
    have m7 : (upd G6 p (.ins TX.C_Store dx (pf4 r m b d))) m = some (.lst []) := by rw [upd_ne npm]; exact m6
    have c7 : (upd G6 p (.ins TX.C_Store dx (pf4 r m b d))) b = some (.lst []) := by rw [upd_ne npb]; exact c6
    have d7 : (upd G6 p (.ins TX.C_Store dx (pf4 r m b d))) d = some (.dK []) := by rw [upd_ne npd]; exact d6
    generalize upd G6 p _ = G7 at g7 b7 m7 c7 d7 ⊢
    refine ⟨sz60 (by simp), fun h hh0 => ?_⟩
    have w8 := same_upd (o := .lst []) hh0
    have h8 := upd_same (H := G7) (a := h) (o := .lst [])
    have nph : h ≠ p := fun e => by rw [e, g7] at hh0; cases hh0
    have nmh : m ≠ h := fun e => by rw [← e, m7] at hh0; cases hh0
    have nbh : b ≠ h := fun e => by rw [← e, c7] at hh0; cases hh0
    have hfh : H1 h = none := by cases e : H1 h with
      | none => rfl
      | some o => rw [b7 h o (by simp [nph]) e] at hh0; cases hh0
    have b8 := b7.trans (.of w8)
    have g8 := w8 _ _ g7
    have m8 := w8 _ _ m7
    have c8 := w8 _ _ c7
    have d8 := w8 _ _ d7
    generalize upd G7 h _ = G8 at b8 h8 g8 m8 c8 d8 ⊢
    refine ⟨_, rfl, p, TX.C_Store, dx, _, rfl, g8, TX.cl_Store, TX.na_Store_history, by show 4 < 1000; decide, ?_⟩
    rw [pp5]
    refine ⟨_, rfl, p, TX.C_Store, dx, _, rfl, upd_same, TX.cl_Store, TX.na_Store_searched, by show 5 < 1000; decide, ?_⟩
    rw [pp6]
    refine q _ ⟨p, m, b, h, d, []⟩ rfl rfl (s1.free hfm) (s1.free hfb) (s1.free hfh) (s1.free hfd) ((ButL.of s1).trans (b8.trans ((ButL.upd (by simp)).trans (.upd (by simp))))) ?_
    have up : ∀ {c : Addr} {u v o : HO}, c ≠ p → G8 c = some o → (upd (upd G8 p u) p v) c = some o := fun n e => by rw [upd_ne n, upd_ne n]; exact e
    have key : Keep K G8 (upd (upd G8 p (.ins TX.C_Store dx (pf5 r m b d h))) p (.ins TX.C_Store dx (fldS r m b d h 0))) := fun c xs e => by
      rcases e with (e | ⟨o, e⟩) | e
      · exact .inl (.inl (up (fun z => by rw [z, g8] at e; cases e) e))
      · exact .inl (.inr ⟨o, up (fun z => by rw [z, g8] at e; cases e) e⟩)
      · exact .inr e
    have key0 : Keep K H1 G8 := fun c xs e => by
      rcases e with (e | ⟨o, e⟩) | e
      · exact .inl (.inl (b8 _ _ (by simp; intro z; rw [z, hp1] at e; cases e) e))
      · exact .inl (.inr ⟨o, b8 _ _ (by simp; intro z; rw [z, hp1] at e; cases e) e⟩)
      · exact .inr e
    exact ⟨⟨dx, r, upd_same, key _ _ (key0 _ _ hS1)⟩, up npm m8, up npb c8, up nph h8, up npd d8, nmb, nmh, nbh, by simp, rfl, rfl, fun i di e => by simp at e⟩
end
theorem StAt.psz {K : PySem.W.Frag} {C : Addr} {H : Hp} {s : St} {pol : List V} {t : T} {L : List (List (Key × V))} {kvs : List (Key × V)} {hs : List V} {n : Int} (a : StAt K C H s pol t L kvs hs n) : s.p ≠ s.m ∧ s.p ≠ s.b ∧ s.p ≠ s.h ∧ s.p ≠ s.d ∧ s.m ≠ s.d ∧ s.b ≠ s.d ∧ s.h ≠ s.d := by
  obtain ⟨dx, r, e1, e2⟩ := a.ex
  refine ⟨fun e => ?_, fun e => ?_, fun e => ?_, fun e => ?_, fun e => ?_, fun e => ?_, fun e => ?_⟩
  · have := a.hm; rw [← e, e1] at this; cases this
  · have := a.hb; rw [← e, e1] at this; cases this
  · have := a.hh; rw [← e, e1] at this; cases this
  · have := a.hd; rw [← e, e1] at this; cases this
  · have := a.hd; rw [← e, a.hm] at this; cases this
  · have := a.hd; rw [← e, a.hb] at this; cases this
  · have := a.hd; rw [← e, a.hh] at this; cases this
/-- the batches' dicts are no other part of the store -/
theorem StAt.dsn {K : PySem.W.Frag} {C : Addr} {H : Hp} {s : St} {pol : List V} {t : T} {L : List (List (Key × V))} {kvs : List (Key × V)} {hs : List V} {n : Int} (a : StAt K C H s pol t L kvs hs n) {di : Addr} (hi : di ∈ s.ds) : di ≠ s.p ∧ di ≠ s.m ∧ di ≠ s.b ∧ di ≠ s.h ∧ di ≠ s.d := by
  obtain ⟨dx, r, e1, e2⟩ := a.ex
  obtain ⟨i, hi'⟩ := List.mem_iff_getElem?.mp hi
  obtain ⟨kv, _, hd⟩ := a.bat i di hi'
  refine ⟨fun e => ?_, fun e => ?_, fun e => ?_, fun e => ?_, fun e => ?_⟩
  · rw [e, e1] at hd; cases hd
  · rw [e, a.hm] at hd; cases hd
  · rw [e, a.hb] at hd; cases hd
  · rw [e, a.hh] at hd; cases hd
  · exact a.dn (e ▸ hi)
theorem atI_neg1 {ys : List V} {v : V} : atI (ys ++ [v]) (-1) = some v := atI_last ys v
theorem iteT' {c : Bool} {A B : Prop} (h : c = true) (a : A) : if c = true then A else B := by rw [if_pos h]; exact a
section
variable {P : Program} {w : World} {K : PySem.W.Frag} {mg : Str → Option Value} {base : Heap}
def sp_Store_schedule (TX : Tx K mg) : Sp := fun vs H Q _ => ∃ (s : St) (pol : List V) (t : T) (L : List (List (Key × V))) (kvs : List (Key × V)) (hs : List V) (n : Int), vs = [.ref s.p] ∧ StAt K TX.C_Store H s pol t L kvs hs n ∧ ∀ H' q, Same H H' → SqT K H' q (vi t.sch) → Q (.ref q) H'
theorem ok_Store_schedule (TX : Tx K mg) : FnOk P w K mg base CX0 1 TX.a_Store_schedule TX.fd_Store_schedule ["self"] (sp_Store_schedule TX) := by
  refine TX.f_Store_schedule.ok sc_Store_schedule (fun vs H Q E h => ?_) (fun cdv A outer s H vs Q E hr h => ?_)
  · obtain ⟨s, pol, t, L, kvs, hs, n, rfl, _⟩ := h; rfl
  · obtain ⟨s, pol, t, L, kvs, hs, n, rfl, a, q⟩ := h
    refine ⟨_, (pss_one (ps_ret (pe_callTy (T := "tuple") (k_tupOf (K := K) rfl) (by rfl) TX.b_tuple (by decide +kernel) (pa_cons (pe_fld (pv 0) rfl) pa_nil)))), ?_⟩
    exact ⟨_, rfl, f_merges a TX.cl_Store TX.na_Store_merges ⟨s.m, _, rfl, .inl ⟨.inl (.inl a.hm), fun o no => q _ o (same_upd no) (.inl (.inl upd_same))⟩⟩⟩
def sp_Store_stack (TX : Tx K mg) : Sp := fun vs H Q _ => ∃ (s : St) (pol : List V) (t : T) (L : List (List (Key × V))) (kvs : List (Key × V)) (hs : List V) (n : Int), vs = [.ref s.p] ∧ StAt K TX.C_Store H s pol t L kvs hs n ∧ t.size ≤ 60 ∧ ∀ H' q, Same H H' → Dp K H' (.ref q) (dStk (t.stk 0)) → Q (.ref q) H'
theorem ok_Store_stack (TX : Tx K mg) : FnOk P w K mg base CX0 6 TX.a_Store_stack TX.fd_Store_stack ["self"] (sp_Store_stack TX) := by
  refine TX.f_Store_stack.ok sc_Store_stack (fun vs H Q E h => ?_) (fun cdv A outer s H vs Q E hr h => ?_)
  · obtain ⟨s, pol, t, L, kvs, hs, n, rfl, _⟩ := h; rfl
  · obtain ⟨s, pol, t, L, kvs, hs, n, rfl, a, hz, q⟩ := h
    refine ⟨_, (pss_cons (ps_set (i := 1) sc_Store_stack.nd rfl (.inl rfl) (pe_call (ok_stacks TX) (hr.mono (by decide)) (by rfl) TX.g_stacks TX.f_stacks.kp TX.bd_stacks .nil pass0 (pa_cons (pe_meth0 (pv 0) TX.cl_Store TX.m_Store_schedule (ok_Store_schedule TX) (hr.mono (by decide)) TX.bd_Store_schedule .nil pass0) pa_nil)))
      (pss_one (ps_ret (pe_ifExp (pt_truth (pv 1) (by intro _; rfl)) (pe_ix (k_ixT (K := K) rfl) (pv 1) (pe_un un_neg pe_int) (fun _ _ => rfl)) (pe_tup pa_nil))))), ?_⟩
    refine ⟨_, rfl, f_meth a (by decide +kernel) ⟨s, pol, t, L, kvs, hs, n, rfl, a, fun H1 c s1 hc => ⟨c, t, rfl, hc, hz, fun H2 g s2 hg => ?_⟩⟩⟩
    obtain ⟨g', xs, e, hX, hA⟩ := Dp.tupInv hg
    cases e
    have hl := DpAll.len hA
    rw [dStacks_len] at hl
    have s12 := s1.trans s2
    refine ⟨.ref g, rfl, !xs.isEmpty, .inr (.inl ⟨xs, hX, rfl⟩), ?_⟩
    rcases snoc_cases xs with rfl | ⟨ys, v, rfl⟩
    · refine iteF ⟨sz60 (by simp), fun o no => q _ o (s12.trans (same_upd no)) ?_⟩
      have e0 : t = .nil := by
        cases t with
        | nil => rfl
        | node l r => exact absurd hl (by simp [T.size]; omega)
      rw [e0]
      exact .tup (.inl (.inl upd_same)) .nil
    · refine iteT' (by simp) ⟨.ref g, rfl, 1, rfl, g, _, -1, v, rfl, rfl, hX, atI_neg1, ?_⟩
      have hz1 : t.size = ys.length + 1 := by rw [← hl]; simp
      have hd : (dStacks t)[ys.length]? = some (dStk (t.stk 0)) := by
        rw [dStacks_at (by omega), ← hz1, pre_all]
      obtain ⟨u, g1, g2⟩ := DpAll.get hA hd
      have : (ys ++ [v])[ys.length]? = some v := by simp
      rw [this] at g1
      cases g1
      obtain ⟨q', e1⟩ : ∃ q', v = .ref q' := by obtain ⟨a', _, e, _⟩ := Dp.tupInv g2; exact ⟨a', e⟩
      subst e1
      exact q _ _ s12 g2
def sp_Store_check_merge (TX : Tx K mg) : Sp := fun vs H Q _ => ∃ (s : St) (nm : Str) (ks : List Int) (t : T) (L : List (List (Key × V))) (kvs : List (Key × V)) (hs : List V) (n : Int) (x : V), vs = [.ref s.p, x] ∧ StAt K TX.C_Store H s (polV nm ks) t L kvs hs n ∧ t.size ≤ 60 ∧
  ((nm = "manual" ∧ ∃ m : Nat, x = .int (m : Int) ∧ m ≤ t.runs) ∨ (nm ≠ "manual" ∧ x = .non)) ∧ ∀ H', Same H H' → Q .non H'
theorem ok_Store_check_merge (TX : Tx K mg) : FnOk P w K mg base CX0 7 TX.a_Store_check_merge TX.fd_Store_check_merge ["self", "merge"] (sp_Store_check_merge TX) := by
  refine TX.f_Store_check_merge.ok sc_Store_check_merge (fun vs H Q E h => ?_) (fun cdv A outer s H vs Q E hr h => ?_)
  · obtain ⟨s, nm, ks, t, L, kvs, hs, n, x, rfl, _⟩ := h; rfl
  · obtain ⟨s, nm, ks, t, L, kvs, hs, n, x, rfl, a, hz, hx, q⟩ := h
    refine ⟨_, (pss_one (ps_if (pt_cmpR op_eq (pe_ix (k_ixT (K := K) rfl) (pe_fld (pv 0) rfl) pe_int (fun _ _ => rfl)) pe_str (nomark _))
        (pss_one (ps_if (pt_not (pt_val (pe_call (ok_is_count_up_to TX) (hr.mono (by decide)) (by rfl) TX.g_is_count_up_to TX.f_is_count_up_to.kp TX.bd_is_count_up_to .nil pass0 (pa_cons (pv 1) (pa_cons (pe_callB (id := "len") (k_len (K := K) rfl) (by rfl) TX.b_len (by decide +kernel) (pa_cons (pe_meth0 (pv 0) TX.cl_Store TX.m_Store_stack (ok_Store_stack TX) (hr.mono (by decide)) TX.bd_Store_stack .nil pass0) pa_nil)) pa_nil)))))
          (pss_one ps_never)
          pss_nil))
        (pss_one (ps_if (pt_cmpR op_notN (pv 1) pe_non (nomark _))
          (pss_one ps_never)
          pss_nil)))), ?_⟩
    refine ⟨_, rfl, f_rule a TX.cl_Store TX.na_Store_rule fun r hr' => ⟨r, _, 0, _, rfl, rfl, hr', atI_nat (j := 0) rfl, rfl, _, rfl, ?_⟩⟩
    rcases hx with ⟨rfl, m, rfl, hm⟩ | ⟨hn, rfl⟩
    · refine decT rfl ⟨_, rfl, _, rfl, f_meth a (by decide +kernel) ⟨s, _, t, L, kvs, hs, n, rfl, a, hz, fun H1 g s1 hg => ?_⟩⟩
      obtain ⟨g', xs, e, hX, hA⟩ := Dp.tupInv hg
      cases e
      have hl := DpAll.len hA
      rw [List.length_map, T.stk_len] at hl
      refine ⟨g, xs, rfl, .inr hX, (m : Int), (xs.length : Int), rfl, ?_⟩
      rw [decide_eq_true (show (0 : Int) ≤ (m : Int) by omega), decide_eq_true (show (m : Int) ≤ (xs.length : Int) by omega)]
      exact ⟨true, rfl, iteF (q _ s1)⟩
    · refine decF (fun z => hn (V.str.inj z)) ⟨_, rfl, rfl, _, rfl, iteF (q _ (Same.refl _))⟩
def sp_Store_visited (TX : Tx K mg) : Sp := fun vs H Q _ => ∃ (s : St) (pol : List V) (t : T) (L : List (List (Key × V))) (kvs : List (Key × V)) (hs : List V) (n : Int), vs = [.ref s.p] ∧ StAt K TX.C_Store H s pol t L kvs hs n ∧ Q (.int n) H
theorem ok_Store_visited (TX : Tx K mg) : FnOk P w K mg base CX0 1 TX.a_Store_visited TX.fd_Store_visited ["self"] (sp_Store_visited TX) := by
  refine TX.f_Store_visited.ok sc_Store_visited (fun vs H Q E h => ?_) (fun cdv A outer s H vs Q E hr h => ?_)
  · obtain ⟨s, pol, t, L, kvs, hs, n, rfl, _⟩ := h; rfl
  · obtain ⟨s, pol, t, L, kvs, hs, n, rfl, a, q⟩ := h
    refine ⟨_, (pss_one (ps_ret (pe_fld (pv 0) rfl))), ?_⟩
    exact ⟨_, rfl, f_searched a TX.cl_Store TX.na_Store_searched q⟩
/-- how many entries each flush wrote -/
def szL (L : List (List (Key × V))) : List Int := L.map fun kv => (kv.length : Int)
def sp_Store_sizes (TX : Tx K mg) : Sp := fun vs H Q _ => ∃ (s : St) (pol : List V) (t : T) (L : List (List (Key × V))) (kvs : List (Key × V)) (hs : List V) (n : Int), vs = [.ref s.p] ∧ StAt K TX.C_Store H s pol t L kvs hs n ∧ t.size ≤ 60 ∧ ∀ H' q, Same H H' → SqT K H' q ((szL L).map V.int) → Q (.ref q) H'
theorem ok_Store_sizes (TX : Tx K mg) : FnOk P w K mg base CX0 1 TX.a_Store_sizes TX.fd_Store_sizes ["self"] (sp_Store_sizes TX) := by
  refine TX.f_Store_sizes.ok sc_Store_sizes (fun vs H Q E h => ?_) (fun cdv A outer s H vs Q E hr h => ?_)
  · obtain ⟨s, pol, t, L, kvs, hs, n, rfl, _⟩ := h; rfl
  · obtain ⟨s, pol, t, L, kvs, hs, n, rfl, a, hz, q⟩ := h
    refine ⟨_, (pss_one (ps_ret (pe_callTy (T := "tuple") (k_tupOf (K := K) rfl) (by rfl) TX.b_tuple (by decide +kernel) (pa_cons (pe_lc (own := [("batch", 1)]) (by rfl) sc_Store_sizes.nd (k_piL (K := K) rfl (pe_fld (pv 0) rfl)) (blkOk_by (own := [("batch", 1)]) (N := N_Store_sizes) (sc := defScope s_Store_sizes) (by decide +kernel)) (fun _ _ _ _ _ => (pg_name (i := 1) sc_Store_sizes.nd rfl (Or.inl rfl))) (fun _ _ _ _ _ => pts_nil) (fun _ _ _ _ _ => (pe_callB (id := "len") call_lenD (by rfl) TX.b_len (by decide +kernel) (pa_cons (pv 1) pa_nil)))) pa_nil)))), ?_⟩
    have hll : (s.ds.map V.ref).length = L.length := by rw [List.length_map, a.l1]
    refine ⟨_, rfl, f_batches a TX.cl_Store TX.na_Store_batches ⟨s.b, rfl, ⟨_, .inl (.inl a.hb)⟩, fun D nD => ?_⟩⟩
    refine lc_all (K := K) (walk_list (xs := s.ds.map V.ref)) ((szL L).map PyData.int) (by simp [szL, a.l1]) (tf_ints _) (by rw [hll, a.l2]; omega) nD (fun H' s' => .inl (.inl (s' _ _ a.hb))) ?_ ?_ (fun x σ' H' Q Q' h => h _ _) (fun σ' H' Q Q' h => h _ _)
    · rintro i x Hx Hx' hi sx ⟨rfl, hx⟩ d hd R hR
      rw [List.getElem?_map] at hx
      cases hdi : s.ds[i]? with
      | none => rw [hdi] at hx; cases hx
      | some di =>
        rw [hdi] at hx
        cases hx
        obtain ⟨kv, e1, e2⟩ := a.bat i di hdi
        rw [List.getElem?_map, szL, List.getElem?_map, e1] at hd
        cases hd
        exact ⟨rfl, rfl, _, rfl, di, kv, rfl, sx _ _ e2, hR _ _ (Same.refl _) (.int _)⟩
    · intro H2 acc s2 ha hAcc
      rw [dp_ints_inv hAcc] at ha
      exact ⟨D, _, rfl, .inl ⟨.inl (.inl ha), fun o no => q _ o (s2.trans (same_upd no)) (.inl (.inl upd_same))⟩⟩
def sp_Store_written (TX : Tx K mg) : Sp := fun vs H Q _ => ∃ (s : St) (pol : List V) (t : T) (L : List (List (Key × V))) (kvs : List (Key × V)) (hs : List V) (n : Int), vs = [.ref s.p] ∧ StAt K TX.C_Store H s pol t L kvs hs n ∧ t.size ≤ 60 ∧ Lds (szL L) ∧ ∀ H', Same H H' → Q (.int (dot (szL L) t.wr)) H'
theorem ok_Store_written (TX : Tx K mg) : FnOk P w K mg base CX0 8 TX.a_Store_written TX.fd_Store_written ["self"] (sp_Store_written TX) := by
  refine TX.f_Store_written.ok sc_Store_written (fun vs H Q E h => ?_) (fun cdv A outer s H vs Q E hr h => ?_)
  · obtain ⟨s, pol, t, L, kvs, hs, n, rfl, _⟩ := h; rfl
  · obtain ⟨s, pol, t, L, kvs, hs, n, rfl, a, hz, hL, q⟩ := h
    refine ⟨_, (pss_one (ps_ret (pe_call (ok_write_work TX) (hr.mono (by decide)) (by rfl) TX.g_write_work TX.f_write_work.kp TX.bd_write_work .nil pass0 (pa_cons (pe_meth0 (pv 0) TX.cl_Store TX.m_Store_schedule (ok_Store_schedule TX) (hr.mono (by decide)) TX.bd_Store_schedule .nil pass0) (pa_cons (pe_meth0 (pv 0) TX.cl_Store TX.m_Store_sizes (ok_Store_sizes TX) (hr.mono (by decide)) TX.bd_Store_sizes .nil pass0) pa_nil))))), ?_⟩
    refine ⟨_, rfl, f_meth a (by decide +kernel) ⟨s, pol, t, L, kvs, hs, n, rfl, a, fun H1 c s1 hc => ?_⟩⟩
    refine ⟨_, rfl, f_meth (a.same s1) (by decide +kernel) ⟨s, pol, t, L, kvs, hs, n, rfl, a.same s1, hz, fun H2 c2 s2 hc2 => ?_⟩⟩
    exact ⟨c, c2, t, szL L, rfl, Same.tup s2 hc, hc2, by unfold szL; rw [List.length_map, a.l2], hz, hL, fun H3 s3 => q _ ((s1.trans s2).trans s3)⟩
def sp_Store_check_moment (TX : Tx K mg) : Sp := fun vs H Q _ => ∃ s : V, vs = [s, .non] ∧ Q .non H
theorem ok_Store_check_moment (TX : Tx K mg) : FnOk P w K mg base CX0 4 TX.a_Store_check_moment TX.fd_Store_check_moment ["self", "moment"] (sp_Store_check_moment TX) := by
  refine TX.f_Store_check_moment.ok sc_Store_check_moment (fun vs H Q E h => ?_) (fun cdv A outer s H vs Q E hr h => ?_)
  · obtain ⟨s, rfl, _⟩ := h; rfl
  · obtain ⟨s, rfl, q⟩ := h
    refine ⟨_, (pss_one (ps_if (PW.pt (pw_and (pt_cmpR op_notN (pv 1) pe_non (nomark _)) (pw_and1 (pt_not (pt_val (pe_call (ok_is_count_up_to TX) (hr.mono (by decide)) (by rfl) TX.g_is_count_up_to TX.f_is_count_up_to.kp TX.bd_is_count_up_to .nil pass0 (pa_cons (pv 1) (pa_cons (pe_callB (id := "len") (k_len (K := K) rfl) (by rfl) TX.b_len (by decide +kernel) (pa_cons (pe_fld (pv 0) rfl) pa_nil)) pa_nil))))))))
        (pss_one ps_never)
        pss_nil)), ?_⟩
    exact ⟨_, rfl, rfl, _, rfl, iteF q⟩
def sp_Store_flushes_until (TX : Tx K mg) : Sp := fun vs H Q _ => ∃ (s : St) (pol : List V) (t : T) (L : List (List (Key × V))) (kvs : List (Key × V)) (hs : List V) (n : Int), vs = [.ref s.p, .non] ∧ StAt K TX.C_Store H s pol t L kvs hs n ∧ Q (.int (t.size : Int)) H
theorem ok_Store_flushes_until (TX : Tx K mg) : FnOk P w K mg base CX0 1 TX.a_Store_flushes_until TX.fd_Store_flushes_until ["self", "moment"] (sp_Store_flushes_until TX) := by
  refine TX.f_Store_flushes_until.ok sc_Store_flushes_until (fun vs H Q E h => ?_) (fun cdv A outer s H vs Q E hr h => ?_)
  · obtain ⟨s, pol, t, L, kvs, hs, n, rfl, _⟩ := h; rfl
  · obtain ⟨s, pol, t, L, kvs, hs, n, rfl, a, q⟩ := h
    refine ⟨_, (pss_one (ps_ret (pe_ifExp (pt_cmpR op_isN (pv 1) pe_non (nomark _)) (pe_callB (id := "len") (k_len (K := K) rfl) (by rfl) TX.b_len (by decide +kernel) (pa_cons (pe_fld (pv 0) rfl) pa_nil)) (pv 1)))), ?_⟩
    have hl : (vi t.sch).length = t.size := by rw [vi_len, T.sch_len]
    refine ⟨_, rfl, rfl, _, rfl, iteT ⟨_, rfl, f_merges a TX.cl_Store TX.na_Store_merges ⟨s.m, _, rfl, .inl (.inl (.inl a.hm)), ?_⟩⟩⟩
    rw [hl]; exact q
end
section
variable {P : Program} {w : World} {K : PySem.W.Frag} {mg : Str → Option Value} {base : Heap}
def sp_Store_chosen_merge (TX : Tx K mg) : Sp := fun vs H Q _ => ∃ (s : St) (ks : List Int) (t : T) (L : List (List (Key × V))) (kvs : List (Key × V)) (hs : List V) (n : Int) (x : V), vs = [.ref s.p, x] ∧ StAt K TX.C_Store H s (polV "manual" ks) t L kvs hs n ∧ Q x H
theorem ok_Store_chosen_merge (TX : Tx K mg) : FnOk P w K mg base CX0 1 TX.a_Store_chosen_merge TX.fd_Store_chosen_merge ["self", "merge"] (sp_Store_chosen_merge TX) := by
  refine TX.f_Store_chosen_merge.ok sc_Store_chosen_merge (fun vs H Q E h => ?_) (fun cdv A outer s H vs Q E hr h => ?_)
  · obtain ⟨s, ks, t, L, kvs, hs, n, x, rfl, _⟩ := h; rfl
  · obtain ⟨s, ks, t, L, kvs, hs, n, x, rfl, a, q⟩ := h
    refine ⟨_, (pss_stop (ps_if (pt_cmpR op_eq (pe_ix (k_ixT (K := K) rfl) (pe_fld (pv 0) rfl) pe_int (fun _ _ => rfl)) pe_str (nomark _))
        (pss_one (ps_ret (pv 1)))
        pss_nil)), ?_⟩
    refine ⟨_, rfl, f_rule a TX.cl_Store TX.na_Store_rule fun r hr' => ⟨r, _, 0, _, rfl, rfl, hr', atI_nat (j := 0) rfl, rfl, _, rfl, decT rfl ⟨_, rfl, q⟩⟩⟩
end
section
variable {P : Program} {w : World} {K : PySem.W.Frag} {mg : Str → Option Value} {base : Heap}
def St.next (s : St) (d' : Addr) : St := ⟨s.p, s.m, s.b, s.h, d', s.ds ++ [s.d]⟩
def sp_Store_flush (TX : Tx K mg) : Sp := fun vs H Q _ => ∃ (s : St) (ks : List Int) (t : T) (L : List (List (Key × V))) (kvs : List (Key × V)) (hs : List V) (n : Int) (m : Nat), vs = [.ref s.p, .int (m : Int)] ∧ StAt K TX.C_Store H s (polV "manual" ks) t L kvs hs n ∧ m ≤ t.runs ∧ t.size < 60 ∧ hs.length ≤ 50000 ∧
  ∀ H' d', H d' = none → ButL s.own H H' → StAt K TX.C_Store H' (s.next d') (polV "manual" ks) (t.push m) (L ++ [kvs]) [] (hs ++ [.non]) n → Q (.int (m : Int)) H'
theorem ok_Store_flush (TX : Tx K mg) : FnOk P w K mg base CX0 8 TX.a_Store_flush TX.fd_Store_flush ["self", "merge"] (sp_Store_flush TX) := by
  refine FunD.okN TX.f_Store_flush sc_Store_flush (fun vs H Q E h => ?_) (fun cdv A outer s H vs Q E hr h => ?_)
  · obtain ⟨s, ks, t, L, kvs, hs, n, m, rfl, _⟩ := h; rfl
  · obtain ⟨s, ks, t, L, kvs, hs, n, m, rfl, a, hm, hz, hhs, q⟩ := h
    refine ⟨_, (pss_cons (ps_expr (pe_meth (pv 0) TX.cl_Store TX.m_Store_check_merge (ok_Store_check_merge TX) (hr.mono (by decide)) TX.bd_Store_check_merge .nil pass0 (pa_cons (pv 1) pa_nil)))
      (pss_cons (ps_if (pt_cmpR op_eq (pe_callB (id := "len") (k_len (K := K) rfl) (by rfl) TX.b_len (by decide +kernel) (pa_cons (pe_fld (pv 0) rfl) pa_nil)) (pe_glob (v := .int (60)) (by rfl) TX.c_MOST_FLUSHES ⟨_, rfl⟩) (nomark _))
        (pss_one ps_never)
        pss_nil)
      (pss_cons (ps_set (i := 2) sc_Store_flush.nd rfl (.inl rfl) (pe_meth (pv 0) TX.cl_Store TX.m_Store_chosen_merge (ok_Store_chosen_merge TX) (hr.mono (by decide)) TX.bd_Store_chosen_merge .nil pass0 (pa_cons (pv 1) pa_nil)))
      (pss_cons (ps_if (pt_cmpR op_isN (pv 2) pe_non (nomark _))
        (pss_one ps_never)
        pss_nil)
      (pss_cons (ps_expr (pe_bm PySem.F.plainAttrs_list PySem.F.slot_list_append PySem.F.type_list_append mt_append (pe_fld (pv 0) rfl) (pa_cons (pv 2) pa_nil)))
      (pss_cons (ps_expr (pe_bm PySem.F.plainAttrs_list PySem.F.slot_list_append PySem.F.type_list_append mt_append (pe_fld (pv 0) rfl) (pa_cons (pe_fld (pv 0) rfl) pa_nil)))
      (pss_cons (ps_fld (pv 0) pe_dnewK rfl)
      (pss_cons (ps_expr (pe_bm PySem.F.plainAttrs_list PySem.F.slot_list_append PySem.F.type_list_append mt_append (pe_fld (pv 0) rfl) (pa_cons pe_non pa_nil)))
      (pss_one (ps_ret (pv 2))))))))))), ?_⟩
    have hsl : (vi t.sch).length = t.size := by rw [vi_len, T.sch_len]
    refine ⟨_, rfl, f_meth a (by decide +kernel) ⟨_, rfl, s, "manual", ks, t, L, kvs, hs, n, .int (m : Int), rfl, a, by omega, .inl ⟨rfl, m, rfl, hm⟩, fun H1 s1 => ?_⟩⟩
    have a1 := a.same s1
    refine ⟨_, rfl, f_merges a1 TX.cl_Store TX.na_Store_merges ⟨s.m, _, rfl, .inl (.inl (.inl a1.hm)), rfl, _, rfl, decF (fun z => by have := V.int.inj z; rw [hsl] at this; omega) ?_⟩⟩
    refine ⟨_, rfl, f_meth a1 (by decide +kernel) ⟨_, rfl, s, ks, t, L, kvs, hs, n, .int (m : Int), rfl, a1, ?_⟩⟩
    refine ⟨_, rfl, rfl, _, rfl, decF (fun z => nomatch z) ?_⟩
    obtain ⟨dx, r, e1, e2⟩ := a1.ex
    obtain ⟨npm, npb, nph, npd, nmd, nbd, nhd⟩ := a1.psz
    refine ⟨_, rfl, f_merges a1 TX.cl_Store TX.na_Store_merges ⟨.inl ⟨rfl, _, .inl (.inl a1.hm)⟩, _, rfl, s.m, _, _, rfl, rfl, a1.hm, sz61 (by omega), ?_⟩⟩
    have g1 : (upd H1 s.m (.lst (vi t.sch ++ [V.int (m : Int)]))) s.p = some (.ins TX.C_Store dx (fldS r s.m s.b s.d s.h n)) := by rw [upd_ne npm]; exact e1
    have gb1 : (upd H1 s.m (.lst (vi t.sch ++ [V.int (m : Int)]))) s.b = some (.lst (s.ds.map V.ref)) := by rw [upd_ne a1.mb.symm]; exact a1.hb
    have gh1 : (upd H1 s.m (.lst (vi t.sch ++ [V.int (m : Int)]))) s.h = some (.lst hs) := by rw [upd_ne a1.mh.symm]; exact a1.hh
    have gm1 := upd_same (H := H1) (a := s.m) (o := .lst (vi t.sch ++ [V.int (m : Int)]))
    have B1 : ButL s.own H1 (upd H1 s.m (.lst (vi t.sch ++ [V.int (m : Int)]))) := .upd (by simp [St.own])
    have C1 : ∀ c, c ≠ s.m → (upd H1 s.m (.lst (vi t.sch ++ [V.int (m : Int)]))) c = H1 c := fun c n => upd_ne n
    generalize upd H1 s.m _ = G1 at g1 gb1 gh1 gm1 B1 C1 ⊢
    refine ⟨_, rfl, s.p, TX.C_Store, dx, _, _, rfl, g1, TX.cl_Store, TX.na_Store_batches, lk_batches .., .inl ⟨rfl, _, .inl (.inl gb1)⟩, _, rfl, s.p, TX.C_Store, dx, _, _, rfl, g1, TX.cl_Store, TX.na_Store_buffer, lk_buffer .., s.b, _, _, rfl, rfl, gb1, sz61 (by rw [List.length_map, a.l1, a.l2]; omega), ?_⟩
    have g2 : (upd G1 s.b (.lst (s.ds.map V.ref ++ [V.ref s.d]))) s.p = some (.ins TX.C_Store dx (fldS r s.m s.b s.d s.h n)) := by rw [upd_ne npb]; exact g1
    have gm2 : (upd G1 s.b (.lst (s.ds.map V.ref ++ [V.ref s.d]))) s.m = some (.lst (vi t.sch ++ [V.int (m : Int)])) := by rw [upd_ne a1.mb]; exact gm1
    have gh2 : (upd G1 s.b (.lst (s.ds.map V.ref ++ [V.ref s.d]))) s.h = some (.lst hs) := by rw [upd_ne a1.bh.symm]; exact gh1
    have gb2 := upd_same (H := G1) (a := s.b) (o := .lst (s.ds.map V.ref ++ [V.ref s.d]))
    have B2 := B1.trans (ButL.upd (S := s.own) (H := G1) (a := s.b) (o := .lst (s.ds.map V.ref ++ [V.ref s.d])) (by simp [St.own]))
    have C2 : ∀ c, c ≠ s.m → c ≠ s.b → (upd G1 s.b (.lst (s.ds.map V.ref ++ [V.ref s.d]))) c = H1 c := fun c n1 n2 => by rw [upd_ne n2, C1 c n1]
    generalize upd G1 s.b _ = G2 at g2 gm2 gh2 gb2 B2 C2 ⊢
    intro d' hd'
    have w3 := same_upd (o := .dK []) hd'
    have npd' : d' ≠ s.p := fun e => by rw [e, g2] at hd'; cases hd'
    have nmd' : d' ≠ s.m := fun e => by rw [e, gm2] at hd'; cases hd'
    have nbd' : d' ≠ s.b := fun e => by rw [e, gb2] at hd'; cases hd'
    have nhd' : d' ≠ s.h := fun e => by rw [e, gh2] at hd'; cases hd'
    have hfd : H1 d' = none := by rw [← C2 d' nmd' nbd']; exact hd'
    have gd3 := upd_same (H := G2) (a := d') (o := .dK [])
    have C3 : ∀ c, c ≠ s.m → c ≠ s.b → c ≠ d' → (upd G2 d' (.dK [])) c = H1 c := fun c n1 n2 n3 => by rw [upd_ne n3, C2 c n1 n2]
    have B3 := B2.trans (.of w3)
    have g3 := w3 _ _ g2
    have gm3 := w3 _ _ gm2
    have gh3 := w3 _ _ gh2
    have gb3 := w3 _ _ gb2
    generalize upd G2 d' _ = G3 at g3 gm3 gh3 gb3 gd3 B3 C3 ⊢
    refine ⟨_, rfl, s.p, TX.C_Store, dx, _, rfl, g3, TX.cl_Store, TX.na_Store_buffer, by rw [fld_len]; decide, ?_⟩
    rw [fld_buffer]
    have g4 := upd_same (H := G3) (a := s.p) (o := .ins TX.C_Store dx (fldS r s.m s.b d' s.h n))
    have gm4 : (upd G3 s.p (.ins TX.C_Store dx (fldS r s.m s.b d' s.h n))) s.m = some (.lst (vi t.sch ++ [V.int (m : Int)])) := by rw [upd_ne npm.symm]; exact gm3
    have gb4 : (upd G3 s.p (.ins TX.C_Store dx (fldS r s.m s.b d' s.h n))) s.b = some (.lst (s.ds.map V.ref ++ [V.ref s.d])) := by rw [upd_ne npb.symm]; exact gb3
    have gh4 : (upd G3 s.p (.ins TX.C_Store dx (fldS r s.m s.b d' s.h n))) s.h = some (.lst hs) := by rw [upd_ne nph.symm]; exact gh3
    have gd4 : (upd G3 s.p (.ins TX.C_Store dx (fldS r s.m s.b d' s.h n))) d' = some (.dK []) := by rw [upd_ne npd']; exact gd3
    have B4 := B3.trans (ButL.upd (S := s.own) (H := G3) (a := s.p) (o := .ins TX.C_Store dx (fldS r s.m s.b d' s.h n)) (by simp [St.own]))
    have C4 : ∀ c, c ≠ s.m → c ≠ s.b → c ≠ d' → c ≠ s.p → (upd G3 s.p (.ins TX.C_Store dx (fldS r s.m s.b d' s.h n))) c = H1 c := fun c n1 n2 n3 n4 => by rw [upd_ne n4, C3 c n1 n2 n3]
    generalize upd G3 s.p _ = G4 at g4 gm4 gh4 gb4 gd4 B4 C4 ⊢
    refine ⟨_, rfl, s.p, TX.C_Store, dx, _, _, rfl, g4, TX.cl_Store, TX.na_Store_history, lk_history .., .inl ⟨rfl, _, .inl (.inl gh4)⟩, s.h, _, _, rfl, rfl, gh4, sz61 (by omega), ?_⟩
    have B5 := B4.trans (ButL.upd (S := s.own) (H := G4) (a := s.h) (o := .lst (hs ++ [V.non])) (by simp [St.own]))
    have C5 : ∀ c, c ≠ s.m → c ≠ s.b → c ≠ d' → c ≠ s.p → c ≠ s.h → (upd G4 s.h (.lst (hs ++ [V.non]))) c = H1 c := fun c n1 n2 n3 n4 n5 => by rw [upd_ne n5, C4 c n1 n2 n3 n4]
    refine ⟨_, rfl, q _ d' (s1.free hfd) ((ButL.of s1).trans B5) ?_⟩
    have kp := a1.keep B5
    refine ⟨⟨dx, r, by show upd G4 s.h _ s.p = _; rw [upd_ne nph]; exact g4, kp _ _ e2⟩, ?_, ?_, upd_same, by show upd G4 s.h _ d' = _; rw [upd_ne nhd']; exact gd4, a1.mb, a1.mh, a1.bh, ?_, ?_, ?_, ?_⟩
    · show upd G4 s.h _ s.m = _
      rw [upd_ne a1.mh, gm4, T.push_sch t m hm, vi_app]; rfl
    · show upd G4 s.h _ s.b = _
      rw [upd_ne a1.bh, gb4]
      show _ = some (HO.lst ((s.ds ++ [s.d]).map V.ref))
      rw [List.map_append]; rfl
    · show d' ∉ s.ds ++ [s.d]
      intro hmem
      rcases List.mem_append.mp hmem with hmem | hmem
      · obtain ⟨i, hi⟩ := List.mem_iff_getElem?.mp hmem
        obtain ⟨kv, _, hkv⟩ := a1.bat i d' hi
        rw [hkv] at hfd; cases hfd
      · rw [List.mem_singleton.mp hmem, a1.hd] at hfd; cases hfd
    · show (s.ds ++ [s.d]).length = (L ++ [kvs]).length
      simp [a.l1]
    · rw [T.push_size t m hm]; simp [a.l2]
    · intro i di hi
      have hold : ∀ {c : Addr} {o : HO}, H1 c = some o → c ≠ s.m → c ≠ s.b → c ≠ s.p → c ≠ s.h → (upd G4 s.h (.lst (hs ++ [V.non]))) c = some o := fun {c o} e n1 n2 n3 n4 => by
        rw [C5 c n1 n2 (fun z => by rw [z, hfd] at e; cases e) n3 n4]; exact e
      by_cases hil : i < s.ds.length
      · have hi2 : s.ds[i]? = some di := by
          have : (s.ds ++ [s.d])[i]? = some di := hi
          rw [List.getElem?_append_left hil] at this; exact this
        obtain ⟨kv, h1, h2⟩ := a1.bat i di hi2
        obtain ⟨n1, n2, n3, n4, n5⟩ := a1.dsn (List.mem_of_getElem? hi2)
        exact ⟨kv, by rw [List.getElem?_append_left (by rw [← a.l1]; exact hil)]; exact h1, hold h2 n2 n3 n1 n4⟩
      · have hi2 : (s.ds ++ [s.d])[i]? = some di := hi
        rw [List.getElem?_append_right (by omega)] at hi2
        have h0 : i - s.ds.length = 0 := by
          have := (List.getElem?_eq_some_iff.mp hi2).1
          simp at this; omega
        rw [h0] at hi2
        cases hi2
        refine ⟨kvs, ?_, hold a1.hd nmd.symm nbd.symm npd.symm nhd.symm⟩
        rw [List.getElem?_append_right (by rw [← a.l1]; omega), ← a.l1, h0]; rfl
end
theorem walk_rc {lo c : Int} {n : Nat} : Walk (Itc lo c n) n (fun _ => True) (fun i H x H' => H' = H ∧ x = .int (lo + (i : Nat) * c)) :=
  ⟨fun _ _ h _ => h, fun _ _ => Nat.le_refl _, fun _ _ _ _ _ _ y => y⟩
section
variable {P : Program} {w : World} {K : PySem.W.Frag} {mg : Str → Option Value} {base : Heap}
def sp_Store_write (TX : Tx K mg) : Sp := fun vs H Q _ => ∃ (s : St) (pol : List V) (t : T) (L : List (List (Key × V))) (kvs : List (Key × V)) (hs : List V) (n : Int) (z : Str) (v : V), vs = [.ref s.p, .str z, v] ∧ StAt K TX.C_Store H s pol t L kvs hs n ∧ kvs.length ≤ 50000 ∧ hs.length ≤ 50000 ∧
  ∀ H' x, ButL s.own H H' → StAt K TX.C_Store H' s pol t L (putK kvs (.inr z) v) (hs ++ [x]) n → Q .non H'
theorem ok_Store_write (TX : Tx K mg) : FnOk P w K mg base CX0 1 TX.a_Store_write TX.fd_Store_write ["self", "key", "value"] (sp_Store_write TX) := by
  refine TX.f_Store_write.ok sc_Store_write (fun vs H Q E h => ?_) (fun cdv A outer s H vs Q E hr h => ?_)
  · obtain ⟨s, pol, t, L, kvs, hs, n, z, v, rfl, _⟩ := h; rfl
  · obtain ⟨s, pol, t, L, kvs, hs, n, z, v, rfl, a, hk, hhs, q⟩ := h
    refine ⟨_, (pss_cons (ps_set (i := 3) sc_Store_write.nd rfl (.inl rfl) (pe_ifExp (pt_cmp (pc_din (hu_of hr) (pv 1) (pe_fld (pv 0) rfl))) (pe_tup (pa_cons (pe_dget (hu_of hr) (pe_fld (pv 0) rfl) (pv 1) (fun _ _ => rfl)) pa_nil)) (pe_tup pa_nil)))
      (pss_cons (ps_expr (pe_bm PySem.F.plainAttrs_list PySem.F.slot_list_append PySem.F.type_list_append mt_append (pe_fld (pv 0) rfl) (pa_cons (pe_tup (pa_cons (pv 1) (pa_cons (pv 3) pa_nil))) pa_nil)))
      (pss_one (ps_dput (hu_of hr) (pe_fld (pv 0) rfl) (pv 1) (pv 2) (by rfl))))), ?_⟩
    refine ⟨_, rfl, _, rfl, f_buffer a TX.cl_Store TX.na_Store_buffer ⟨s.d, _, rfl, DGet.k (k := .inr z) a.hd, _, rfl, ?_⟩⟩
    cases ev : valV kvs (.inr z)
    case' none =>
      refine iteF ⟨sz60 (by simp), fun o no => ?_⟩
      have w1 := same_upd (o := .tup []) no
      generalize upd H o _ = H1 at w1 ⊢
    case' some old =>
      refine iteT ⟨_, rfl, s.p, TX.C_Store, _, _, _, rfl, a.ex.choose_spec.choose_spec.1, TX.cl_Store, TX.na_Store_buffer, lk_buffer .., _, rfl, s.d, old, rfl, by have := DGet.k (H := H) (a := s.d) (k := Sum.inr z) a.hd; rw [ev] at this; exact this, sz60 (by simp), fun o no => ?_⟩
      have w1 := same_upd (o := .tup [old]) no
      generalize upd H o _ = H1 at w1 ⊢
    all_goals (
      have a1 := a.same w1
      obtain ⟨npm, npb, nph, npd, nmd, nbd, nhd⟩ := a1.psz
      refine ⟨_, rfl, f_history a1 TX.cl_Store TX.na_Store_history ⟨.inl ⟨rfl, _, .inl (.inl a1.hh)⟩, _, rfl, _, rfl, sz60 (by simp), fun o2 no2 => ?_⟩⟩
      have w2 := same_upd (o := .tup [V.str z, V.ref o]) no2
      have a2 := a1.same w2
      generalize upd H1 o2 _ = H2 at w2 a2 ⊢
      refine ⟨s.h, _, _, rfl, rfl, a2.hh, sz61 (by omega), ?_⟩
      obtain ⟨dx, r, e1, e2⟩ := a2.ex
      have g1 : (upd H2 s.h (.lst (hs ++ [V.ref o2]))) s.p = some (.ins TX.C_Store dx (fldS r s.m s.b s.d s.h n)) := by rw [upd_ne nph]; exact e1
      have gd1 : (upd H2 s.h (.lst (hs ++ [V.ref o2]))) s.d = some (.dK kvs) := by rw [upd_ne nhd.symm]; exact a2.hd
      refine ⟨_, rfl, _, rfl, s.p, TX.C_Store, dx, _, _, rfl, g1, TX.cl_Store, TX.na_Store_buffer, lk_buffer .., _, rfl, s.d, _, rfl, DPut.k (k := .inr z) gd1 (sz61 (by omega)), ?_⟩
      have B : ButL s.own H2 (upd (upd H2 s.h (.lst (hs ++ [V.ref o2]))) s.d (.dK (putK kvs (.inr z) v))) := (ButL.upd (by simp [St.own])).trans (.upd (by simp [St.own]))
      have kp := a2.keep B
      refine q _ (.ref o2) ((ButL.of (w1.trans w2)).trans B) ⟨⟨dx, r, by rw [upd_ne npd]; exact g1, kp _ _ e2⟩, by rw [upd_ne nmd, upd_ne a2.mh]; exact a2.hm, by rw [upd_ne nbd, upd_ne a2.bh]; exact a2.hb, by rw [upd_ne nhd]; exact upd_same, upd_same, a.mb, a.mh, a.bh, a.dn, a.l1, a.l2, fun i di hi => ?_⟩
      obtain ⟨kv, h1, h2⟩ := a2.bat i di hi
      obtain ⟨n1, n2, n3, n4, n5⟩ := a2.dsn (List.mem_of_getElem? hi)
      exact ⟨kv, h1, by rw [upd_ne n5, upd_ne n4]; exact h2⟩)
def sp_Store_put (TX : Tx K mg) : Sp := fun vs H Q _ => ∃ (s : St) (pol : List V) (t : T) (L : List (List (Key × V))) (kvs : List (Key × V)) (hs : List V) (n : Int) (z : Str) (i : Int), vs = [.ref s.p, .str z, .int i] ∧ StAt K TX.C_Store H s pol t L kvs hs n ∧ keyOkS z = true ∧ kvs.length ≤ 50000 ∧ hs.length ≤ 50000 ∧
  ∀ H' x, ButL s.own H H' → StAt K TX.C_Store H' s pol t L (putK kvs (.inr z) (.int i)) (hs ++ [x]) n → Q .non H'
theorem ok_Store_put (TX : Tx K mg) : FnOk P w K mg base CX0 4 TX.a_Store_put TX.fd_Store_put ["self", "key", "value"] (sp_Store_put TX) := by
  refine TX.f_Store_put.ok sc_Store_put (fun vs H Q E h => ?_) (fun cdv A outer s H vs Q E hr h => ?_)
  · obtain ⟨s, pol, t, L, kvs, hs, n, z, i, rfl, _⟩ := h; rfl
  · obtain ⟨s, pol, t, L, kvs, hs, n, z, i, rfl, a, hz, hk, hhs, q⟩ := h
    refine ⟨_, (pss_cons (ps_expr (pe_call (ok_check_key TX) (hr.mono (by decide)) (by rfl) TX.g_check_key TX.f_check_key.kp TX.bd_check_key .nil pass0 (pa_cons (pv 1) pa_nil)))
      (pss_cons (ps_if (pt_not (pt_val (pe_call (ok_is_int TX) (hr.mono (by decide)) (by rfl) TX.g_is_int TX.f_is_int.kp TX.bd_is_int .nil pass0 (pa_cons (pv 2) pa_nil))))
        (pss_one ps_never)
        pss_nil)
      (pss_one (ps_expr (pe_meth (pv 0) TX.cl_Store TX.m_Store_write (ok_Store_write TX) (hr.mono (by decide)) TX.bd_Store_write .nil pass0 (pa_cons (pv 1) (pa_cons (pv 2) pa_nil))))))), ?_⟩
    refine ⟨_, rfl, z, rfl, hz, fun H1 s1 => ⟨_, rfl, i, rfl, true, rfl, iteF ?_⟩⟩
    have a1 := a.same s1
    exact ⟨_, rfl, f_meth a1 (by decide +kernel) ⟨_, rfl, _, rfl, s, pol, t, L, kvs, hs, n, z, .int i, rfl, a1, hk, hhs, fun H' x b st => q H' x ((ButL.of s1).trans b) st⟩⟩
/-- a read of a key that stands nowhere -/
def sp_Store_read (TX : Tx K mg) : Sp := fun vs H Q _ => ∃ (s : St) (pol : List V) (t : T) (L : List (List (Key × V))) (kvs : List (Key × V)) (hs : List V) (n : Int) (z : Str), vs = [.ref s.p, .str z, .non] ∧ StAt K TX.C_Store H s pol t L kvs hs n ∧ keyOkS z = true ∧ t.size ≤ 60 ∧ valV kvs (.inr z) = none ∧ (∀ kv, kv ∈ L → valV kv (.inr z) = none) ∧
  ∀ H', ButL [s.p] H H' → StAt K TX.C_Store H' s pol t L kvs hs (n + (t.runs : Int)) → Q .non H'
theorem ok_Store_read (TX : Tx K mg) : FnOk P w K mg base CX0 7 TX.a_Store_read TX.fd_Store_read ["self", "key", "moment"] (sp_Store_read TX) := by
  refine FunD.okN TX.f_Store_read sc_Store_read (fun vs H Q E h => ?_) (fun cdv A outer s H vs Q E hr h => ?_)
  · obtain ⟨s, pol, t, L, kvs, hs, n, z, rfl, _⟩ := h; rfl
  · obtain ⟨s, pol, t, L, kvs, hs, n, z, rfl, a, hz, h60, hk, hL, q⟩ := h
    refine ⟨_, (pss_cons (ps_expr (pe_call (ok_check_key TX) (hr.mono (by decide)) (by rfl) TX.g_check_key TX.f_check_key.kp TX.bd_check_key .nil pass0 (pa_cons (pv 1) pa_nil)))
      (pss_cons (ps_expr (pe_meth (pv 0) TX.cl_Store TX.m_Store_check_moment (ok_Store_check_moment TX) (hr.mono (by decide)) TX.bd_Store_check_moment .nil pass0 (pa_cons (pv 2) pa_nil)))
      (pss_cons (ps_if (PW.pt (pw_and (pt_cmpR op_isN (pv 2) pe_non (nomark _)) (pw_and1 (pt_cmp (pc_din (hu_of hr) (pv 1) (pe_fld (pv 0) rfl))))))
        (pss_one (ps_ret (pe_dget (hu_of hr) (pe_fld (pv 0) rfl) (pv 1) (fun _ _ => rfl))))
        pss_nil)
      (pss_cons (ps_set (i := 3) sc_Store_read.nd rfl (.inl rfl) (pe_meth (pv 0) TX.cl_Store TX.m_Store_flushes_until (ok_Store_flushes_until TX) (hr.mono (by decide)) TX.bd_Store_flushes_until .nil pass0 (pa_cons (pv 2) pa_nil)))
      (pss_cons (ps_set (i := 4) sc_Store_read.nd rfl (.inl rfl) (pe_meth0 (pv 0) TX.cl_Store TX.m_Store_stack (ok_Store_stack TX) (hr.mono (by decide)) TX.bd_Store_stack .nil pass0))
      (pss_cons (ps_for PassesOwn.never rfl (RT.pi_revA (by rfl) TX.b_reversed (pv 4)) (pg_tup rfl (pgs_cons (pg_name (i := 5) sc_Store_read.nd rfl (.inl rfl)) (pgs_cons (pg_name (i := 6) sc_Store_read.nd rfl (.inl rfl)) pgs_nil)))
        (pss_one (ps_if (pt_cmpR op_lt (pv 5) (pv 3) (nomark _))
          (pss_cons (ps_fldaug (pv 0) pe_int in_add)
          (pss_one (ps_for PassesOwn.never rfl (pi_revR (by rfl) TX.b_reversed (prg_2 (by rfl) TX.b_range (pv 5) (pe_callB (id := "min") (call_min2 rfl) (by rfl) TX.b_min (by decide +kernel) (pa_cons (pv 6) (pa_cons (pv 3) pa_nil))))) (pg_name (i := 7) sc_Store_read.nd rfl (.inl rfl))
            (pss_one (ps_if (pt_cmp (pc_din (hu_of hr) (pv 1) (pe_ix (k_ixL (K := K) rfl) (pe_fld (pv 0) rfl) (pv 7) (fun _ _ => rfl))))
              (pss_one (ps_ret (pe_dget (hu_of hr) (pe_ix (k_ixL (K := K) rfl) (pe_fld (pv 0) rfl) (pv 7) (fun _ _ => rfl)) (pv 1) (fun _ _ => rfl))))
              pss_nil)))))
          pss_nil)))
      (pss_one (ps_ret pe_non)))))))), ?_⟩
    refine ⟨_, rfl, z, rfl, hz, fun H1 s1 => ?_⟩
    have a1 := a.same s1
    refine ⟨_, rfl, f_meth a1 (by decide +kernel) ⟨_, rfl, _, rfl, ?_⟩⟩
    refine ⟨_, rfl, rfl, _, rfl, iteT ⟨_, rfl, _, rfl, f_buffer a1 TX.cl_Store TX.na_Store_buffer ⟨s.d, _, rfl, DGet.k (k := .inr z) a1.hd, _, rfl, ?_⟩⟩⟩
    rw [hk]
    refine iteF ?_
    refine ⟨_, rfl, f_meth a1 (by decide +kernel) ⟨_, rfl, s, pol, t, L, kvs, hs, n, rfl, a1, ?_⟩⟩
    refine ⟨_, rfl, f_meth a1 (by decide +kernel) ⟨s, pol, t, L, kvs, hs, n, rfl, a1, h60, fun H2 g s2 hg => ?_⟩⟩
    obtain ⟨g', xs, e, hX, hA⟩ := Dp.tupInv hg
    cases e
    have hl := DpAll.len hA
    rw [List.length_map, T.stk_len] at hl
    have a2 := a1.same s2
    have hbT : ∀ {G : Hp}, Keep K H2 G → SqT K G g xs := fun k => k _ _ hX
    refine ⟨.ref g, rfl, g, xs, rfl, .inr ⟨hX, for_it (walk_revT (K := K)) (fun i σ H' => ∃ y5 y6 y7, σ = [some (.ref s.p), some (.str z), some .non, some (.int (t.size : Int)), some (.ref g), y5, y6, y7] ∧ StAt K TX.C_Store H' s pol t L kvs hs (n + (i : Int)) ∧ ButL [s.p] H2 H' ∧ Keep K H2 H') ⟨_, _, _, rfl, by simpa using a2, .refl, Keep.refl⟩ (fun i σ H' _ h => by obtain ⟨_, _, _, _, _, _, k⟩ := h; exact hbT k) ?_ ?_⟩⟩
    · rintro i x σ H3 H3' hi ⟨y5, y6, y7, rfl, a3, b3, k3⟩ ⟨rfl, hx⟩
      obtain ⟨pr, hpr⟩ : ∃ pr, (t.stk 0)[xs.length - 1 - i]? = some pr := ⟨_, List.getElem?_eq_getElem (by rw [T.stk_len]; omega)⟩
      obtain ⟨v, g1, g2⟩ := DpAll.get (DpAll.keep k3 (fun d hd => by obtain ⟨q', _, rfl⟩ := List.mem_map.mp hd; exact tf_pr q') hA) (show ((t.stk 0).map dPr)[xs.length - 1 - i]? = some (dPr pr) by rw [List.getElem?_map, hpr]; rfl)
      rw [hx] at g1
      cases g1
      obtain ⟨b, rfl, hb⟩ := Dp.intsInv (ns := [(pr.1 : Int), (pr.2 : Int)]) g2
      obtain ⟨l0, l1, l2⟩ := stk_lt t 0 pr (List.mem_of_getElem? hpr)
      obtain ⟨dx, r, e1, e2⟩ := a3.ex
      obtain ⟨npm, npb, nph, npd, nmd, nbd, nhd⟩ := a3.psz
      refine ⟨b, _, rfl, hb, rfl, _, _, rfl, _, [], rfl, rfl, ?_⟩
      refine ⟨_, rfl, _, rfl, _, _, rfl, rfl, _, rfl, decT (by omega) ⟨_, rfl, s.p, TX.C_Store, dx, _, _, rfl, e1, TX.cl_Store, TX.na_Store_searched, lk_searched .., _, _, rfl, rfl, dx, _, e1, by rw [fld_len]; decide, ?_⟩⟩
      rw [fld_searched]
      have a4 : StAt K TX.C_Store (upd H3' s.p (.ins TX.C_Store dx (fldS r s.m s.b s.d s.h (n + (i : Int) + 1)))) s pol t L kvs hs (n + ((i + 1 : Nat) : Int)) := by
        have B : ButL s.own H3' (upd H3' s.p (.ins TX.C_Store dx (fldS r s.m s.b s.d s.h (n + (i : Int) + 1)))) := .upd (by simp [St.own])
        refine ⟨⟨dx, r, by rw [upd_same, show n + ((i + 1 : Nat) : Int) = n + (i : Int) + 1 by omega], a3.keep B _ _ e2⟩, by rw [upd_ne npm.symm]; exact a3.hm, by rw [upd_ne npb.symm]; exact a3.hb, by rw [upd_ne nph.symm]; exact a3.hh, by rw [upd_ne npd.symm]; exact a3.hd, a3.mb, a3.mh, a3.bh, a3.dn, a3.l1, a3.l2, fun i' di hi' => ?_⟩
        obtain ⟨kv, h1, h2⟩ := a3.bat i' di hi'
        exact ⟨kv, h1, by rw [upd_ne (a3.dsn (List.mem_of_getElem? hi')).1]; exact h2⟩
      have b4 : ButL [s.p] H2 (upd H3' s.p (.ins TX.C_Store dx (fldS r s.m s.b s.d s.h (n + (i : Int) + 1)))) := b3.trans (.upd (by simp))
      have k4 : Keep K H2 (upd H3' s.p (.ins TX.C_Store dx (fldS r s.m s.b s.d s.h (n + (i : Int) + 1)))) := k3.trans (a3.keep (.upd (by simp [St.own])))
      generalize upd H3' s.p _ = H4 at a4 b4 k4 ⊢
      have hmin : (if (t.size : Int) < (pr.2 : Int) then (t.size : Int) else (pr.2 : Int)) = (pr.2 : Int) := by split <;> omega
      refine ⟨_, rfl, _, rfl, _, rfl, _, _, rfl, ?_⟩
      rw [hmin]
      refine ⟨_, _, rfl, rfl, by omega, by omega, by omega, by omega, ?_⟩
      have hN : ((pr.2 : Int) - (pr.1 : Int)).toNat = pr.2 - pr.1 := by omega
      rw [hN]
      refine for_it (walk_rc (lo := (pr.1 : Int) + ((pr.2 - pr.1 : Nat) : Int) - 1) (c := -1) (n := pr.2 - pr.1)) (fun j σ H' => ∃ y7, σ = [some (.ref s.p), some (.str z), some .non, some (.int (t.size : Int)), some (.ref g), some (.int (pr.1 : Int)), some (.int (pr.2 : Int)), y7] ∧ H' = H4) ⟨_, rfl, rfl⟩ (fun _ _ _ _ _ => trivial) ?_ ?_
      · rintro j x σ H5 H5' hj ⟨y7, rfl, rfl⟩ ⟨rfl, rfl⟩
        obtain ⟨fl, hfl⟩ : ∃ fl : Nat, (pr.1 : Int) + ((pr.2 - pr.1 : Nat) : Int) - 1 + (j : Nat) * -1 = (fl : Int) := ⟨pr.2 - 1 - j, by omega⟩
        have hfs : fl < s.ds.length := by rw [a4.l1, a4.l2]; omega
        obtain ⟨di, hdi⟩ : ∃ di, s.ds[fl]? = some di := ⟨_, List.getElem?_eq_getElem hfs⟩
        obtain ⟨kv, h1, h2⟩ := a4.bat fl di hdi
        have hno := hL kv (List.mem_of_getElem? h1)
        rw [hfl]
        refine ⟨_, rfl, _, rfl, f_batches a4 TX.cl_Store TX.na_Store_batches ⟨_, rfl, s.b, _, _, .ref di, rfl, rfl, .inl (.inl a4.hb), atI_nat (by rw [List.getElem?_map, hdi]; rfl), di, _, rfl, DGet.k (k := .inr z) h2, _, rfl, ?_⟩⟩
        rw [hno]
        exact iteF ⟨_, rfl, rfl⟩
      · rintro σ H5 ⟨y7, rfl, rfl⟩
        exact ⟨_, _, _, rfl, a4, b4, k4⟩
    · rintro σ H3 ⟨y5, y6, y7, rfl, a3, b3, k3⟩
      rw [hl] at a3
      exact q _ ((ButL.of (s1.trans s2)).trans b3) a3
end
section
variable {P : Program} {w : World} {K : PySem.W.Frag} {mg : Str → Option Value} {base : Heap}
/-- nothing of the store stood before -/
def Fr (H0 : Hp) (s : St) : Prop := ∀ c, c ∈ s.own → H0 c = none
theorem Fr.but {H0 H H' : Hp} {s : St} {S : List Addr} (f : Fr H0 s) (e : Same H0 H) (hS : ∀ c, c ∈ S → c ∈ s.own) (b : ButL S H H') : Same H0 H' := fun c o h => b c o (fun z => by rw [f c (hS c z)] at h; cases h) (e c o h)
theorem Fr.next {H0 H : Hp} {s : St} {d' : Addr} (f : Fr H0 s) (e : Same H0 H) (h : H d' = none) : Fr H0 (s.next d') := fun c hc => by
  simp only [St.own, St.next, List.mem_cons, List.not_mem_nil, or_false] at hc
  have k : ∀ x, x ∈ s.own → H0 x = none := f
  simp only [St.own, List.mem_cons, List.not_mem_nil, or_false] at k
  rcases hc with z | z | z | z | z
  · exact k c (by simp [z])
  · exact k c (by simp [z])
  · exact k c (by simp [z])
  · exact k c (by simp [z])
  · cases g : H0 c with
    | none => rfl
    | some o => rw [z] at g; rw [e _ _ g] at h; cases h
def kN (i : Nat) : Str := (["a", "b", "c", "d", "e", "f", "g", "h"] : List Str).getD i ""
/-- the entries of a flush of z keys, the first j put -/
def kvL (z j : Nat) : List (Key × V) := (List.range j).map fun i => (.inr (kN i), .int (z : Int))
theorem kvL_len (z j : Nat) : (kvL z j).length = j := by simp [kvL]
theorem kvL_put {z j : Nat} (h : j < 8) : putK (kvL z j) (.inr (kN j)) (.int (z : Int)) = kvL z (j + 1) := by
  have hz : j = 0 ∨ j = 1 ∨ j = 2 ∨ j = 3 ∨ j = 4 ∨ j = 5 ∨ j = 6 ∨ j = 7 := by omega
  rcases hz with e | e | e | e | e | e | e | e <;> subst e <;> rfl
theorem kvL_never {z j : Nat} (h : j ≤ 8) : valV (kvL z j) (.inr "never") = none := by
  have hz : j = 0 ∨ j = 1 ∨ j = 2 ∨ j = 3 ∨ j = 4 ∨ j = 5 ∨ j = 6 ∨ j = 7 ∨ j = 8 := by omega
  rcases hz with e | e | e | e | e | e | e | e | e <;> subst e <;> rfl
theorem kN_ok {j : Nat} (h : j < 8) : keyOkS (kN j) = true := by
  have hz : j = 0 ∨ j = 1 ∨ j = 2 ∨ j = 3 ∨ j = 4 ∨ j = 5 ∨ j = 6 ∨ j = 7 := by omega
  rcases hz with e | e | e | e | e | e | e | e <;> subst e <;> decide +kernel
def nmV : List V := [V.str "a", V.str "b", V.str "c", V.str "d", V.str "e", V.str "f", V.str "g", V.str "h"]
theorem nm_cut {z : Nat} (h : z ≤ 8) : cutV nmV none (some (z : Int)) = nmV.take z := by
  have hz : z = 0 ∨ z = 1 ∨ z = 2 ∨ z = 3 ∨ z = 4 ∨ z = 5 ∨ z = 6 ∨ z = 7 ∨ z = 8 := by omega
  rcases hz with e | e | e | e | e | e | e | e | e <;> subst e <;> rfl
theorem nm_at {z i : Nat} {x : V} (h : z ≤ 8) (e : (nmV.take z)[i]? = some x) : i < z ∧ i < 8 ∧ x = .str (kN i) := by
  rw [List.getElem?_take] at e
  split at e
  · rename_i hi
    refine ⟨hi, by omega, ?_⟩
    have hz : i = 0 ∨ i = 1 ∨ i = 2 ∨ i = 3 ∨ i = 4 ∨ i = 5 ∨ i = 6 ∨ i = 7 := by omega
    rcases hz with k | k | k | k | k | k | k | k <;> subst k <;> cases e <;> rfl
  · cases e
theorem nm_len {z : Nat} (h : z ≤ 8) : (nmV.take z).length = z := by
  rw [List.length_take]; show min z 8 = z; omega
def sp_L_sized (TX : Tx K mg) : Sp := fun vs H Q _ => ∃ (s : St) (ks : List Int) (t : T) (L : List (List (Key × V))) (hs : List V) (n : Int) (z m : Nat) (H0 : Hp), vs = [.ref s.p, .int (z : Int), .int (m : Int)] ∧ StAt K TX.C_Store H s (polV "manual" ks) t L [] hs n ∧ m ≤ t.runs ∧ z ≤ 8 ∧ t.size < 60 ∧ hs.length ≤ 40000 ∧ Same H0 H ∧ Fr H0 s ∧
  ∀ H' s' hs', s'.p = s.p → Fr H0 s' → Same H0 H' → StAt K TX.C_Store H' s' (polV "manual" ks) (t.push m) (L ++ [kvL z z]) [] hs' n → hs'.length ≤ hs.length + 9 → Q (.int (m : Int)) H'
theorem ok_L_sized (TX : Tx K mg) : FnOk P w K mg base CX0 9 TX.a_L_sized TX.fd_L_sized ["_law_store", "_law_size", "_law_fold"] (sp_L_sized TX) := by
  refine TX.f_L_sized.ok sc_L_sized (fun vs H Q E h => ?_) (fun cdv A outer s H vs Q E hr h => ?_)
  · obtain ⟨s, ks, t, L, hs, n, z, m, H0, rfl, _⟩ := h; rfl
  · obtain ⟨s, ks, t, L, hs, n, z, m, H0, rfl, a, hm, hz, h60, hhs, s0, fr, q⟩ := h
    refine ⟨_, (pss_cons (ps_for PassesOwn.never rfl (k_piL (K := K) rfl (pe_slice sl_list (pe_lst (pa_cons pe_str (pa_cons pe_str (pa_cons pe_str (pa_cons pe_str (pa_cons pe_str (pa_cons pe_str (pa_cons pe_str (pa_cons pe_str pa_nil))))))))) po_none (po_some (pv 1)))) (pg_name (i := 3) sc_L_sized.nd rfl (.inl rfl))
        (pss_one (ps_expr (pe_meth (pv 0) TX.cl_Store TX.m_Store_put (ok_Store_put TX) (hr.mono (by decide)) TX.bd_Store_put .nil pass0 (pa_cons (pv 3) (pa_cons (pv 1) pa_nil))))))
      (pss_one (ps_ret (pe_methK0 (pv 0) TX.cl_Store TX.m_Store_flush (ok_Store_flush TX) (hr.mono (by decide)) TX.kb_Store_flush_merge pass0 (pk_cons (pv 2) pk_nil))))), ?_⟩
    refine ⟨sz60 (by simp), fun l0 nl0 => ?_⟩
    have w1 := same_upd (o := .lst nmV) nl0
    rw [show ([V.str "a", V.str "b", V.str "c", V.str "d", V.str "e", V.str "f", V.str "g", V.str "h"] : List V) = nmV from rfl]
    refine ⟨_, rfl, _, rfl, l0, nmV, rfl, .inl (.inl upd_same), fun l nl => ?_⟩
    rw [nm_cut hz]
    have w2 := w1.trans (same_upd (o := .lst (nmV.take z)) nl)
    have hlA := upd_same (H := upd H l0 (.lst nmV)) (a := l) (o := .lst (nmV.take z))
    have nlo : l ∉ s.own := fun hc => by
      have a1 := a.same w1
      obtain ⟨dx, r, e1, e2⟩ := a1.ex
      simp only [St.own, List.mem_cons, List.not_mem_nil, or_false] at hc
      rcases hc with k | k | k | k | k <;> rw [k] at nl
      · rw [e1] at nl; cases nl
      · rw [a1.hm] at nl; cases nl
      · rw [a1.hb] at nl; cases nl
      · rw [a1.hh] at nl; cases nl
      · rw [a1.hd] at nl; cases nl
    have aA := a.same w2
    have s0A := s0.trans w2
    generalize upd (upd H l0 (.lst nmV)) l _ = HA at hlA aA s0A ⊢
    refine ⟨l, rfl, ⟨_, .inl (.inl hlA)⟩, for_it (walk_list (xs := nmV.take z)) (fun i σ H' => ∃ y hs', σ = [some (.ref s.p), some (.int (z : Int)), some (.int (m : Int)), y] ∧ ButL s.own HA H' ∧ StAt K TX.C_Store H' s (polV "manual" ks) t L (kvL z i) hs' n ∧ hs'.length = hs.length + i) ⟨_, _, rfl, .refl, aA, rfl⟩ (fun i σ H' _ h => by obtain ⟨_, _, _, b, _⟩ := h; exact .inl (.inl (b _ _ nlo hlA))) ?_ ?_⟩
    · rintro i x σ H3 H3' hi ⟨y, hs', rfl, b3, a3, l3⟩ ⟨rfl, hx⟩
      obtain ⟨hiz, hi8, rfl⟩ := nm_at hz hx
      refine ⟨_, rfl, f_meth a3 (by decide +kernel) ⟨_, rfl, _, rfl, s, _, t, L, _, hs', n, kN i, (z : Int), rfl, a3, kN_ok hi8, by rw [kvL_len]; omega, by omega, fun H4 x4 b4 a4 => ?_⟩⟩
      rw [kvL_put hi8] at a4
      exact ⟨_, _, rfl, b3.trans b4, a4, by rw [List.length_append, l3]; rfl⟩
    · rintro σ H3 ⟨y, hs', rfl, b3, a3, l3⟩
      rw [nm_len hz] at a3 l3
      have s3 := fr.but s0A (fun _ h => h) b3
      refine ⟨_, rfl, f_meth a3 (by decide +kernel) ⟨_, rfl, rfl, s, ks, t, L, _, hs', n, m, rfl, a3, hm, h60, by omega, fun H4 d' hd' b4 a4 => ?_⟩⟩
      exact q H4 (s.next d') _ rfl (fr.next s3 hd') (fr.but s3 (fun _ h => h) b4) a4 (by rw [List.length_append, l3]; simp; omega)
end
section
theorem dot_step {xs : List Int} {ns : List Nat} {i : Nat} {x : Int} {n : Nat} (hx : xs[i]? = some x) (hn : ns[i]? = some n) : dot (xs.take (i + 1)) (ns.take (i + 1)) = dot (xs.take i) (ns.take i) + x * (n : Int) := by
  unfold dot
  rw [← List.take_zipWith, ← List.take_zipWith]
  have h : (List.zipWith (fun (x : Int) (n : Nat) => x * (n : Int)) xs ns)[i]? = some (x * (n : Int)) := by
    rw [List.getElem?_zipWith, hx, hn]
  rw [List.take_add_one, h]
  simp
theorem dot_whole {xs : List Int} {ns : List Nat} {i : Nat} (hx : xs.length ≤ i) (hn : ns.length ≤ i) : dot (xs.take i) (ns.take i) = dot xs ns := by
  rw [List.take_of_length_le hx, List.take_of_length_le hn]
/-- the batches of flushes of so many entries -/
def kvs8 (ss : List Nat) : List (List (Key × V)) := ss.map fun z => kvL z z
theorem kvs8_sz (ss : List Nat) : szL (kvs8 ss) = ci ss := by
  unfold szL kvs8 ci
  rw [List.map_map]
  exact List.map_congr_left fun z _ => by show ((kvL z z).length : Int) = _; rw [kvL_len]
theorem ci_lds {ss : List Nat} (h : ∀ z, z ∈ ss → z ≤ 8) : Lds (ci ss) := fun x hx => by
  obtain ⟨z, hz, rfl⟩ := List.mem_map.mp hx
  have := h z hz
  show (0 : Int) ≤ (z : Int) ∧ (z : Int) ≤ 1000000000
  omega
variable {P : Program} {w : World} {K : PySem.W.Frag} {mg : Str → Option Value} {base : Heap}
def sp_L_both_works (TX : Tx K mg) : Sp := fun vs H Q _ => ∃ (pa pb pc : Addr) (t : T) (ss rs : List Nat), vs = [.ref pa, .ref pb, .ref pc] ∧ SqT K H pa (vi t.sch) ∧ SqT K H pb (vi ss) ∧ SqT K H pc (vi rs) ∧ t.size ≤ 12 ∧ ss.length = t.size ∧ rs.length = t.size ∧ (∀ z, z ∈ ss → z ≤ 8) ∧ (∀ z, z ∈ rs → z ≤ 8) ∧
  ∀ H' p, Same H H' → H' p = some (.tup [.int (dot (ci ss) t.wr), .int (dot (ci rs) t.rc)]) → Q (.ref p) H'
theorem ok_L_both_works (TX : Tx K mg) [WP w TX] : FnOk P w K mg base CX0 11 TX.a_L_both_works TX.fd_L_both_works ["_law_plan", "_law_sizes_of", "_law_reads_of"] (sp_L_both_works TX) := by
  refine TX.f_L_both_works.ok sc_L_both_works (fun vs H Q E h => ?_) (fun cdv A outer s H vs Q E hr h => ?_)
  · obtain ⟨pa, pb, pc, t, ss, rs, rfl, _⟩ := h; rfl
  · obtain ⟨pa, pb, pc, t, ss, rs, rfl, hA, hB, hC, h12, hss, hrs, hs8, hr8, q⟩ := h
    refine ⟨_, (pss_cons (ps_set (i := 3) sc_L_both_works.nd rfl (.inl rfl) (pe_make TX.mk_Store (ok_Store___init__ (w := w) TX) (hr.mono (by decide)) (by rfl) TX.gc_Store TX.bd_Store___init__ .nil pass0 (pa_cons (pe_tup (pa_cons pe_str pa_nil)) pa_nil)))
      (pss_cons (ps_for PassesOwn.never rfl (pi_zip3 (K := K) rfl (by rfl) TX.b_zip (pa_cons (pv 0) (pa_cons (pv 1) (pa_cons (pv 2) pa_nil)))) (pg_tup rfl (pgs_cons (pg_name (i := 4) sc_L_both_works.nd rfl (.inl rfl)) (pgs_cons (pg_name (i := 5) sc_L_both_works.nd rfl (.inl rfl)) (pgs_cons (pg_name (i := 6) sc_L_both_works.nd rfl (.inl rfl)) pgs_nil))))
        (pss_cons (ps_expr (pe_call (ok_L_sized TX) (hr.mono (by decide)) (by rfl) TX.g_L_sized TX.f_L_sized.kp TX.bd_L_sized .nil pass0 (pa_cons (pv 3) (pa_cons (pv 5) (pa_cons (pv 4) pa_nil)))))
        (pss_one (ps_for PassesOwn.never rfl (pi_range1 (by rfl) TX.b_range (pa_cons (pv 6) pa_nil)) (pg_name (i := 7) sc_L_both_works.nd rfl (.inl rfl))
          (pss_one (ps_expr (pe_meth (pv 3) TX.cl_Store TX.m_Store_read (ok_Store_read TX) (hr.mono (by decide)) TX.bd_Store_read TX.vd_Store_read pass0 (pa_cons pe_str pa_nil))))))))
      (pss_one (ps_ret (pe_tup (pa_cons (pe_meth0 (pv 3) TX.cl_Store TX.m_Store_written (ok_Store_written TX) (hr.mono (by decide)) TX.bd_Store_written .nil pass0) (pa_cons (pe_meth0 (pv 3) TX.cl_Store TX.m_Store_visited (ok_Store_visited TX) (hr.mono (by decide)) TX.bd_Store_visited .nil pass0) pa_nil))))))), ?_⟩
    refine ⟨sz60 (by simp), fun r nr p dx hp0 hd0 ndp => ?_⟩
    have w1 := same_upd (o := .tup [V.str "manual"]) nr
    have hR : upd H r (.tup [V.str "manual"]) r = some (.tup [V.str "manual"]) := upd_same
    generalize upd H r (.tup [V.str "manual"]) = H1 at w1 hp0 hd0 hR ⊢
    have w2 := w1.trans (same_upd (o := .own p) hd0)
    have hR2 := same_upd (o := .own p) hd0 _ _ hR
    have hp1 : (upd H1 dx (.own p)) p = none := by rw [upd_ne ndp.symm]; exact hp0
    generalize upd H1 dx (.own p) = H2 at w2 hp1 hR2 ⊢
    have w3 := w2.trans (same_upd (o := .ins TX.C_Store dx []) hp1)
    have hR3 := same_upd (o := .ins TX.C_Store dx []) hp1 _ _ hR2
    refine ⟨p, dx, r, "manual", [], rfl, upd_same, .inl (.inl hR3), ⟨.inl ⟨rfl, rfl⟩, fun k hk => nomatch hk⟩, fun H' s sp0 sds fm fb fh fd b a => ⟨rfl, ?_⟩⟩
    generalize upd H2 p (.ins TX.C_Store dx []) = H3 at w3 fm fb fh fd b
    have fr : Fr H s := fun c hc => by
      simp only [St.own, List.mem_cons, List.not_mem_nil, or_false] at hc
      rcases hc with k | k | k | k | k <;> rw [k]
      · rw [sp0]; exact w2.free hp1
      · exact w3.free fm
      · exact w3.free fb
      · exact w3.free fh
      · exact w3.free fd
    have s4 := fr.but (S := [p]) w3 (fun c hc => by rw [List.mem_singleton.mp hc, ← sp0]; simp [St.own]) b
    subst sp0
    refine ⟨_, rfl, _, rfl, _, rfl, pa, pb, pc, vi t.sch, vi ss, vi rs, rfl, Same.tup s4 hA, Same.tup s4 hB, Same.tup s4 hC, for_it (walk_zip3 (xs := vi t.sch) (ys := vi ss) (zs := vi rs) (n := t.size) (by rw [vi_len, vi_len, vi_len, T.sch_len]; omega)) (fun i σ G => ∃ s' hs' y4 y5 y6 y7, σ = [some (.ref pa), some (.ref pb), some (.ref pc), some (.ref s'.p), y4, y5, y6, y7] ∧ Fr H s' ∧ Same H G ∧ StAt K TX.C_Store G s' (polV "manual" []) (pre t i) (kvs8 (ss.take i)) [] hs' (dot ((ci rs).take i) (t.rc.take i)) ∧ hs'.length ≤ 9 * i) ⟨s, [], _, _, _, _, rfl, fr, s4, a, Nat.le_refl _⟩ (fun i σ G _ h => by obtain ⟨_, _, _, _, _, _, _, _, k, _⟩ := h; exact ⟨Same.tup k hA, Same.tup k hB, Same.tup k hC⟩) ?_ ?_⟩
    · rintro i x σ G G' hi ⟨s', hs', y4, y5, y6, y7, rfl, fr5, k5, a5, l5⟩ ⟨N, u, v, z, rfl, hN, rfl, gu, gv, gz⟩
      obtain ⟨m, hm⟩ : ∃ m, t.sch[i]? = some m := ⟨_, List.getElem?_eq_getElem (by rw [T.sch_len]; exact hi)⟩
      obtain ⟨f, hf⟩ : ∃ f, ss[i]? = some f := ⟨_, List.getElem?_eq_getElem (by omega)⟩
      obtain ⟨g, hg⟩ : ∃ g, rs[i]? = some g := ⟨_, List.getElem?_eq_getElem (by omega)⟩
      replace gu : (vi t.sch)[i]? = some u := gu
      replace gv : (vi ss)[i]? = some v := gv
      replace gz : (vi rs)[i]? = some z := gz
      rw [vi, List.getElem?_map, hm] at gu
      rw [vi, List.getElem?_map, hf] at gv
      rw [vi, List.getElem?_map, hg] at gz
      cases gu
      cases gv
      cases gz
      have w6 := same_upd (o := .tup [V.int (m : Int), V.int (f : Int), V.int (g : Int)]) hN
      have hT := upd_same (H := G) (a := N) (o := .tup [V.int (m : Int), V.int (f : Int), V.int (g : Int)])
      have a6 := a5.same w6
      have k6 := k5.trans w6
      generalize upd G N (.tup [V.int (m : Int), V.int (f : Int), V.int (g : Int)]) = G6 at w6 hT a6 k6 ⊢
      obtain ⟨hp, hmr⟩ := pre_succ hm
      have hps := pre_size (t := t) (i := i) (Nat.le_of_lt hi)
      refine ⟨N, _, rfl, .inl (.inl hT), rfl, _, _, rfl, _, _, rfl, _, [], rfl, rfl, ?_⟩
      refine ⟨_, rfl, _, rfl, _, rfl, s', [], pre t i, _, hs', _, f, m, H, rfl, a6, hmr, hs8 f (List.mem_of_getElem? hf), by omega, by omega, k6, fr5, fun H7 s7 hs7 e7 fr7 k7 a7 l7 => ?_⟩
      rw [← hp] at a7
      have hkv : kvs8 (ss.take i) ++ [kvL f f] = kvs8 (ss.take (i + 1)) := by
        unfold kvs8
        rw [List.take_add_one, hf]
        simp
      rw [hkv] at a7
      rw [← e7]
      have hps1 := pre_size (t := t) (i := i + 1) hi
      have hg8 := hr8 g (List.mem_of_getElem? hg)
      have hst : dot ((ci rs).take (i + 1)) (t.rc.take (i + 1)) = dot ((ci rs).take i) (t.rc.take i) + (g : Int) * ((pre t (i + 1)).runs : Int) := dot_step (by rw [ci, List.getElem?_map, hg]; rfl) (pre_runs hi)
      refine ⟨_, rfl, (g : Int), rfl, by omega, by omega, ?_⟩
      rw [show (g : Int).toNat = g by omega]
      refine for_it walk_range (fun j σ G => ∃ y7, σ = [some (.ref pa), some (.ref pb), some (.ref pc), some (.ref s7.p), some (.int (m : Int)), some (.int (f : Int)), some (.int (g : Int)), y7] ∧ Same H G ∧ StAt K TX.C_Store G s7 (polV "manual" []) (pre t (i + 1)) (kvs8 (ss.take (i + 1))) [] hs7 (dot ((ci rs).take i) (t.rc.take i) + (j : Int) * ((pre t (i + 1)).runs : Int))) ⟨_, rfl, k7, by rw [show ((0 : Nat) : Int) * ((pre t (i + 1)).runs : Int) = 0 from Int.zero_mul _, Int.add_zero]; exact a7⟩ (fun _ _ _ _ _ => trivial) ?_ ?_
      · rintro j x σ G8 G8' hj ⟨y7, rfl, k8, a8⟩ ⟨rfl, rfl⟩
        refine ⟨_, rfl, f_meth a8 (by decide +kernel) ⟨s7, _, pre t (i + 1), _, [], hs7, _, "never", rfl, a8, by decide +kernel, by omega, rfl, fun kv hkv => ?_, fun H9 b9 a9 => ?_⟩⟩
        · obtain ⟨z, hz, rfl⟩ := List.mem_map.mp hkv
          exact kvL_never (hs8 z (List.mem_of_mem_take hz))
        · refine ⟨_, rfl, fr7.but k8 (fun c hc => by rw [List.mem_singleton.mp hc]; simp [St.own]) b9, ?_⟩
          rw [show dot ((ci rs).take i) (t.rc.take i) + ((j + 1 : Nat) : Int) * ((pre t (i + 1)).runs : Int) = dot ((ci rs).take i) (t.rc.take i) + (j : Int) * ((pre t (i + 1)).runs : Int) + ((pre t (i + 1)).runs : Int) by
            rw [show ((j + 1 : Nat) : Int) = (j : Int) + 1 by omega, Int.add_mul, Int.one_mul, Int.add_assoc]]
          exact a9
      · rintro σ G8 ⟨y7, rfl, k8, a8⟩
        rw [← hst] at a8
        exact ⟨s7, hs7, _, _, _, _, rfl, fr7, k8, a8, by omega⟩
    · rintro σ G ⟨s', hs', y4, y5, y6, y7, rfl, fr5, k5, a5, l5⟩
      rw [pre_all, dot_whole (by rw [ci, List.length_map]; omega) (by rw [T.rc_len]; omega), List.take_of_length_le (by omega)] at a5
      refine ⟨_, rfl, f_meth a5 (by decide +kernel) ⟨s', _, t, _, _, _, _, rfl, a5, by omega, by rw [kvs8_sz]; exact ci_lds hs8, fun H9 k9 => ?_⟩⟩
      have a9 := a5.same k9
      rw [kvs8_sz]
      refine ⟨_, rfl, f_meth a9 (by decide +kernel) ⟨s', _, t, _, _, _, _, rfl, a9, ?_⟩⟩
      refine ⟨sz60 (by simp), fun p np => ?_⟩
      exact q _ p ((k5.trans k9).trans (same_upd np)) upd_same
end
theorem Deal.keep {K : PySem.W.Frag} {H H' : Hp} {a : Addr} {n : Int} (h : Deal H a n) (e : But a H H') : Keep K H H' := by
  obtain ⟨d, s, m, h1, r⟩ := h
  exact But.keep e h1
theorem Deal.upd {H : Hp} {a l : Addr} {n : Int} {o : HO} (h : Deal H a n) (e : l ≠ a) : Deal (L2.upd H l o) a n := by
  obtain ⟨d, s, m, h1, r⟩ := h
  exact ⟨d, s, m, by rw [upd_ne e.symm]; exact h1, r⟩
theorem But.mut {a l : Addr} {H H' : Hp} {o : HO} (b : But a H H') (h : H l = none) : But a H (L2.upd H' l o) := fun c u n e => by
  rw [upd_ne (ne_of_none e h)]; exact b _ _ n e
/-- numbers drawn, each below z -/
theorem lc_drawn {lo : Int} {n j : Nat} {vs : List Nat} {σ : L2.St} {H1 : Hp} {D a : Addr} {Qd : Hp → Prop} {te : TE} {n0 : Int} {z : Nat} (hn : n ≤ 60) (hD : H1 D = none) (hp : Deal H1 a n0)
    (hw : ∀ x, wipe ((wipe σ vs).set j (some x)) vs = wipe σ vs)
    (ht : ∀ x H' m (R : V → Hp → Prop), m < n0 + n → But a H1 (H') → Deal H' a m → (∀ H'' (r : Nat), But a H' H'' → Deal H'' a (m + 1) → r < z → R (.int (r : Int)) H'') → te ((wipe σ vs).set j (some x)) H' R)
    (hd : ∀ H xs, But a H1 H → Deal H a (n0 + n) → H D = some (.lst (vi xs)) → xs.length = n → (∀ x, x ∈ xs → x < z) → Qd H) :
    ∃ W : Nat → Nat → Hp → Prop, (∃ m, W 0 m (upd H1 D (.lst []))) ∧ ∀ i m H, W i m H →
      ((Itr lo n).stop i H ∧ Qd H) ∨ ((Itr lo n).go i H ∧ ∃ Nx : Hp → Prop, (∀ H', Nx H' → ∃ m', m' < m ∧ W (i + 1) m' H') ∧ ∀ x H', (Itr lo n).yld i H x H' → gName j x (wipe σ vs) H' fun σ2 H2 => wipe σ2 vs = wipe σ vs ∧ tYes σ2 H2 fun b H3 =>
        if b = true then te σ2 H3 fun y H4 => ∃ acc, H4 D = some (.lst acc) ∧ acc.length < sizeLine ∧ Nx (upd H4 D (.lst (acc ++ [y]))) else Nx H3) := by
  have nDa : D ≠ a := hp.ne hD
  refine lc_it walk_range (fun i H => ∃ xs : List Nat, But a H1 H ∧ Deal H a (n0 + (i : Int)) ∧ H D = some (.lst (vi xs)) ∧ xs.length = i ∧ ∀ x, x ∈ xs → x < z)
    ⟨[], .of (same_upd hD), (hp.upd nDa).mono (by omega), upd_same, rfl, fun x h => nomatch h⟩ (fun _ _ _ _ => trivial) ?_ ?_
  · rintro i x H H' hi ⟨xs, b, p, hx, hl, hz⟩ ⟨rfl, rfl⟩
    refine ⟨hw _, ?_⟩
    simp only [tYes, if_true]
    refine ht _ _ _ _ (by omega) b p fun H2 r b2 p2 hr => ?_
    have hx2 := b2 _ _ nDa hx
    refine ⟨_, hx2, sz61 (by rw [vi_len]; omega), xs ++ [r], (b.trans b2).mut hD, (p2.upd nDa).mono (by omega), by rw [upd_same, vi_app]; rfl, by rw [List.length_append, hl]; rfl, fun y hy => ?_⟩
    rcases List.mem_append.mp hy with h | h
    · exact hz y h
    · rw [List.mem_singleton.mp h]; exact hr
  · rintro H ⟨xs, b, p, hx, hl, hz⟩
    exact hd H xs b p hx hl hz
section
variable {P : Program} {w : World} {K : PySem.W.Frag} {mg : Str → Option Value} {base : Heap}
def sp_L_some_folds (K : PySem.W.Frag) : Sp := fun vs H Q _ => ∃ (a : Addr) (k : Nat) (n : Int), vs = [.ref a, .int (k : Int)] ∧ Deal H a n ∧ n ≤ 50000 ∧ k ≤ 60 ∧ ∀ H' p (t : T), But a H H' → Deal H' a (n + 200) → t.size = k → SqT K H' p (vi t.sch) → Q (.ref p) H'
theorem ok_L_some_folds (TX : Tx K mg) : FnOk P w K mg base CX0 3 TX.a_L_some_folds TX.fd_L_some_folds ["_law_deal", "_law_size"] (sp_L_some_folds K) := by
  refine TX.f_L_some_folds.ok sc_L_some_folds (fun vs H Q E h => ?_) (fun cdv A outer s H vs Q E hr h => ?_)
  · obtain ⟨a, k, n, rfl, _⟩ := h; rfl
  · obtain ⟨a, k, n, rfl, hp, hn, hk, q⟩ := h
    refine ⟨_, (pss_cons (ps_par (i := 2) (j := 3) (by rfl) sc_L_some_folds.nd rfl rfl (by decide) rfl rfl (pa_cons (pe_lst pa_nil) (pa_cons pe_int pa_nil)) (by rfl))
      (pss_cons (ps_for PassesOwn.never rfl (pi_range1 (by rfl) TX.b_range (pa_cons (pv 1) pa_nil)) (pg_name (i := 4) sc_L_some_folds.nd rfl (.inl rfl))
        (pss_cons (ps_expr (pe_bm PySem.F.plainAttrs_list PySem.F.slot_list_append PySem.F.type_list_append mt_append (pv 2) (pa_cons (pe_call (ok_L_pick TX) (hr.mono (by decide)) (by rfl) TX.g_L_pick TX.f_L_pick.kp TX.bd_L_pick .nil pass0 (pa_cons (pv 0) (pa_cons (pe_lst (pa_cons pe_int (pa_cons (pv 3) (pa_cons (pe_call (ok_L_next TX) (hr.mono (by decide)) (by rfl) TX.g_L_next TX.f_L_next.kp TX.bd_L_next .nil pass0 (pa_cons (pv 0) (pa_cons (pe_op op_add (pv 3) pe_int) pa_nil))) (pa_cons (pe_callTy (T := "int") call_int1 (by rfl) TX.b_int (by decide +kernel) (pa_cons (pe_cmpR op_gt (pv 3) pe_int (nomark _)) pa_nil)) pa_nil))))) pa_nil))) pa_nil)))
        (pss_one (ps_set (i := 3) sc_L_some_folds.nd rfl (.inl rfl) (pe_op op_add (pe_op op_sub (pv 3) (pe_ix (k_ixL (K := K) rfl) (pv 2) (pe_un un_neg pe_int) (fun _ _ => rfl))) pe_int)))))
      (pss_one (ps_ret (pe_callTy (T := "tuple") (k_tupOf (K := K) rfl) (by rfl) TX.b_tuple (by decide +kernel) (pa_cons (pv 2) pa_nil)))))), ?_⟩
    refine ⟨sz60 (by simp), fun l nl => ?_⟩
    have nla : l ≠ a := hp.ne nl
    have s1 := same_upd (o := .lst []) nl
    refine ⟨_, _, rfl, _, rfl, _, rfl, by omega, by omega, for_range (lo := 0) (fun i σ H' => ∃ (t : T) (y : Option V), σ = [some (.ref a), some (.int (k : Int)), some (.ref l), some (.int (t.runs : Int)), y] ∧ But a H H' ∧ Deal H' a (n + 3 * (i : Int)) ∧ H' l = some (.lst (vi t.sch)) ∧ t.size = i)
      ⟨.nil, none, rfl, .of s1, (hp.same s1).mono (by omega), upd_same, rfl⟩ ?_ ?_⟩
    · rintro i σ H3 hi ⟨t, y, rfl, b3, p3, hl, ht⟩
      have hrs := T.runs_le t
      refine ⟨_, rfl, .inl ⟨rfl, _, .inl (.inl hl)⟩, .ref a, rfl, _, rfl, .ref a, rfl, _, rfl, _, _, rfl, rfl, a, _, _, rfl, p3, by omega, by omega, by omega, fun H4 r b4 p4 r0 r1 => ?_⟩
      refine ⟨_, rfl, _, _, rfl, rfl, .inr ⟨_, rfl, sz60 (by simp), fun lp nlp => ?_⟩⟩
      have s5 := same_upd (o := .lst [V.int 0, V.int (t.runs : Int), V.int r, V.int (if decide ((0 : Int) < (t.runs : Int)) = true then 1 else 0)]) nlp
      have nlpa : lp ≠ a := p4.ne nlp
      refine ⟨a, lp, _, _, rfl, p4.same s5, by omega, upd_same, nlpa, by simp, by simp, fun H6 v b6 p6 hv => ?_⟩
      obtain ⟨m, rfl, hm⟩ : ∃ m : Nat, v = .int (m : Int) ∧ m ≤ t.runs := by
        simp only [List.mem_cons, List.not_mem_nil, or_false] at hv
        rcases hv with rfl | rfl | rfl | rfl
        · exact ⟨0, rfl, by omega⟩
        · exact ⟨t.runs, rfl, Nat.le_refl _⟩
        · exact ⟨r.toNat, by congr 1; omega, by omega⟩
        · by_cases h : (0 : Int) < (t.runs : Int)
          · exact ⟨1, by rw [if_pos (decide_eq_true h)]; rfl, by omega⟩
          · exact ⟨0, by rw [if_neg (by simpa using h)]; rfl, by omega⟩
      have b36 : But a H3 H6 := (b4.trans (.of s5)).trans b6
      have hl6 := b36 _ _ nla hl
      refine ⟨l, _, _, rfl, rfl, hl6, sz61 (by rw [vi_len, T.sch_len]; omega), ?_⟩
      refine ⟨_, rfl, _, rfl, _, rfl, l, _, -1, _, rfl, rfl, .inl (.inl upd_same), atI_last _ _, _, _, rfl, rfl, _, _, rfl, rfl, ?_⟩
      have e2 : (t.runs : Int) - (m : Int) + 1 = ((t.push m).runs : Int) := by rw [T.push_runs t m hm]; omega
      refine ⟨t.push m, some (.int (0 + (i : Int))), ?_, (b3.trans b36).mut nl, (p6.upd nla).mono (by omega), by rw [upd_same, T.push_sch t m hm, vi_app]; rfl, by rw [T.push_size t m hm, ht]⟩
      show [_, _, _, _, _] = [_, _, _, _, _]
      rw [← e2]
    · rintro σ H3 ⟨t, y, rfl, b3, p3, hl, ht⟩
      have e : ((k : Int)).toNat = k := by omega
      rw [e] at ht
      exact ⟨_, rfl, l, _, rfl, .inl ⟨.inl (.inl hl), fun o no => q _ o t (b3.trans (.of (same_upd no))) ((p3.same (same_upd no)).mono (by omega)) ht (.inl (.inl upd_same))⟩⟩
end
theorem dot_rev : ∀ (xs : List Int) (ns : List Nat), xs.length = ns.length → dot xs.reverse ns.reverse = dot xs ns
  | [], [], _ => rfl
  | x :: xs, n :: ns, h => by
    have ih := dot_rev xs ns (by simpa using h)
    have e : (List.reverse xs).length = (List.reverse ns).length := by simpa using h
    unfold dot at ih ⊢
    rw [List.reverse_cons, List.reverse_cons, List.zipWith_append e, List.sum_append, ih]
    simp
    omega
theorem vi_rev (ns : List Nat) : (vi ns).reverse = vi ns.reverse := by simp [vi]
theorem ci_rev (ns : List Nat) : ci ns.reverse = (ci ns).reverse := by simp [ci]
theorem ints_rev (ns : List Int) : (ns.map V.int).reverse = ns.reverse.map V.int := by simp
theorem dEdges_at {t : T} {i : Nat} (h : i < t.size) : (dEdges t)[i]? = some (dEd t i) := by simp [dEdges, h]
theorem dEdges_len (t : T) : (dEdges t).length = t.size := by simp [dEdges]
theorem sh_edges (t : T) {k : Nat} : ∀ d, d ∈ dEdges t → Sh (k + 1) d := fun d hd => by
  obtain ⟨i, _, rfl⟩ := List.mem_map.mp hd
  exact Sh.tup (k := k) (Sh.ints [(t.wr.getD i 0 : Int) - 1, (t.rc.getD i 0 : Int) - 1])
theorem getD_rev {ns : List Nat} {i : Nat} (h : i < ns.length) : ns.reverse.getD (ns.length - 1 - i) 0 = ns.getD i 0 := by
  rw [List.getD_eq_getElem?_getD, List.getD_eq_getElem?_getD, List.getElem?_reverse (by omega), show ns.length - 1 - (ns.length - 1 - i) = i by omega]
/-- an edge of the mirror, left and right exchanged -/
theorem mir_ed {t : T} {i : Nat} (h : i < t.size) : dEd t i = .tuple [.int ((t.mir.rc.getD (t.size - 1 - i) 0 : Int) - 1), .int ((t.mir.wr.getD (t.size - 1 - i) 0 : Int) - 1)] := by
  unfold dEd
  rw [mir_rc, mir_wr]
  have h1 := getD_rev (ns := t.wr) (i := i) (by rw [T.wr_len]; exact h)
  have h2 := getD_rev (ns := t.rc) (i := i) (by rw [T.rc_len]; exact h)
  rw [T.wr_len] at h1
  rw [T.rc_len] at h2
  rw [h1, h2]
section
variable {P : Program} {w : World} {K : PySem.W.Frag} {mg : Str → Option Value} {base : Heap}
def sp_L_right (TX : Tx K mg) : Sp := fun vs H Q _ => ∃ (a : Addr) (n : Int), vs = [.ref a] ∧ Deal H a n ∧ n ≤ 40000 ∧ ∀ H', But a H H' → Deal H' a (n + 1000) → Q (.bl true) H'
theorem ok_L_right (TX : Tx K mg) [WP w TX] : FnOk P w K mg base CX0 12 TX.a_L_right TX.fd_L_right ["_law_deal"] (sp_L_right TX) := by
  refine TX.f_L_right.ok sc_L_right (fun vs H Q E h => ?_) (fun cdv A outer s H vs Q E hr h => ?_)
  · obtain ⟨a, n, rfl, _⟩ := h; rfl
  · obtain ⟨a, n, rfl, hp, hn, q⟩ := h
    refine ⟨_, (pss_cons (ps_set (i := 1) sc_L_right.nd rfl (.inl rfl) (pe_call (ok_L_pick TX) (hr.mono (by decide)) (by rfl) TX.g_L_pick TX.f_L_pick.kp TX.bd_L_pick .nil pass0 (pa_cons (pv 0) (pa_cons (pe_lst (pa_cons pe_int (pa_cons (pe_op op_add pe_int (pe_call (ok_L_next TX) (hr.mono (by decide)) (by rfl) TX.g_L_next TX.f_L_next.kp TX.bd_L_next .nil pass0 (pa_cons (pv 0) (pa_cons pe_int pa_nil)))) (pa_cons pe_int pa_nil)))) pa_nil))))
      (pss_cons (ps_set (i := 2) sc_L_right.nd rfl (.inl rfl) (pe_call (ok_L_some_folds TX) (hr.mono (by decide)) (by rfl) TX.g_L_some_folds TX.f_L_some_folds.kp TX.bd_L_some_folds .nil pass0 (pa_cons (pv 0) (pa_cons (pv 1) pa_nil))))
      (pss_cons (ps_set (i := 3) sc_L_right.nd rfl (.inl rfl) (pe_callTy (T := "tuple") (k_tupOf (K := K) rfl) (by rfl) TX.b_tuple (by decide +kernel) (pa_cons (pe_lc (own := [("_law_k", 10)]) (by rfl) sc_L_right.nd (pi_range1 (by rfl) TX.b_range (pa_cons (pv 1) pa_nil)) (blkOk_by (own := [("_law_k", 10)]) (N := N_L_right) (sc := defScope s_L_right) (by decide +kernel)) (fun _ _ _ _ _ => (pg_name (i := 10) sc_L_right.nd rfl (Or.inl rfl))) (fun _ _ _ _ _ => pts_nil) (fun _ _ _ _ _ => (pe_call (ok_L_next TX) (hr.mono (by decide)) (by rfl) TX.g_L_next TX.f_L_next.kp TX.bd_L_next .nil pass0 (pa_cons (pv 0) (pa_cons pe_int pa_nil))))) pa_nil)))
      (pss_cons (ps_set (i := 4) sc_L_right.nd rfl (.inl rfl) (pe_callTy (T := "tuple") (k_tupOf (K := K) rfl) (by rfl) TX.b_tuple (by decide +kernel) (pa_cons (pe_lc (own := [("_law_k", 10)]) (by rfl) sc_L_right.nd (pi_range1 (by rfl) TX.b_range (pa_cons (pv 1) pa_nil)) (blkOk_by (own := [("_law_k", 10)]) (N := N_L_right) (sc := defScope s_L_right) (by decide +kernel)) (fun _ _ _ _ _ => (pg_name (i := 10) sc_L_right.nd rfl (Or.inl rfl))) (fun _ _ _ _ _ => pts_nil) (fun _ _ _ _ _ => (pe_call (ok_L_next TX) (hr.mono (by decide)) (by rfl) TX.g_L_next TX.f_L_next.kp TX.bd_L_next .nil pass0 (pa_cons (pv 0) (pa_cons pe_int pa_nil))))) pa_nil)))
      (pss_cons (ps_set (i := 5) sc_L_right.nd rfl (.inl rfl) (pe_call (ok_mirror TX) (hr.mono (by decide)) (by rfl) TX.g_mirror TX.f_mirror.kp TX.bd_mirror .nil pass0 (pa_cons (pv 2) pa_nil)))
      (pss_cons (ps_set (i := 6) sc_L_right.nd rfl (.inl rfl) (pe_call (ok_L_both_works (w := w) TX) (hr.mono (by decide)) (by rfl) TX.g_L_both_works TX.f_L_both_works.kp TX.bd_L_both_works .nil pass0 (pa_cons (pv 2) (pa_cons (pv 3) (pa_cons (pv 4) pa_nil)))))
      (pss_cons (ps_set (i := 7) sc_L_right.nd rfl (.inl rfl) (pe_call (ok_L_both_works (w := w) TX) (hr.mono (by decide)) (by rfl) TX.g_L_both_works TX.f_L_both_works.kp TX.bd_L_both_works .nil pass0 (pa_cons (pv 5) (pa_cons (pe_revT (K := K) rfl (pv 4)) (pa_cons (pe_revT (K := K) rfl (pv 3)) pa_nil)))))
      (pss_cons (ps_if (PW.pt (pw_or (pt_cmpR (op_neD hr.units) (pv 7) (pe_revT (K := K) rfl (pv 6)) (nomark _)) (pw_or1 (pt_cmpR (op_neD hr.units) (pe_call (ok_mirror TX) (hr.mono (by decide)) (by rfl) TX.g_mirror TX.f_mirror.kp TX.bd_mirror .nil pass0 (pa_cons (pv 5) pa_nil)) (pv 2) (nomark _)))))
        (pss_one (ps_ret pe_bl))
        pss_nil)
      (pss_cons (ps_if (PW.pt (pw_or (pt_cmpR (op_neD hr.units) (pe_revT (K := K) rfl (pe_call (ok_writes TX) (hr.mono (by decide)) (by rfl) TX.g_writes TX.f_writes.kp TX.bd_writes .nil pass0 (pa_cons (pv 5) pa_nil))) (pe_call (ok_run_counts TX) (hr.mono (by decide)) (by rfl) TX.g_run_counts TX.f_run_counts.kp TX.bd_run_counts .nil pass0 (pa_cons (pv 2) pa_nil)) (nomark _)) (pw_or1 (pt_cmpR (op_neD hr.units) (pe_revT (K := K) rfl (pe_call (ok_run_counts TX) (hr.mono (by decide)) (by rfl) TX.g_run_counts TX.f_run_counts.kp TX.bd_run_counts .nil pass0 (pa_cons (pv 5) pa_nil))) (pe_call (ok_writes TX) (hr.mono (by decide)) (by rfl) TX.g_writes TX.f_writes.kp TX.bd_writes .nil pass0 (pa_cons (pv 2) pa_nil)) (nomark _)))))
        (pss_one (ps_ret pe_bl))
        pss_nil)
      (pss_cons (ps_par (i := 8) (j := 9) (by rfl) sc_L_right.nd rfl rfl (by decide) rfl rfl (pa_cons (pe_call (ok_edges TX) (hr.mono (by decide)) (by rfl) TX.g_edges TX.f_edges.kp TX.bd_edges .nil pass0 (pa_cons (pe_call (ok_tree_of TX) (hr.mono (by decide)) (by rfl) TX.g_tree_of TX.f_tree_of.kp TX.bd_tree_of .nil pass0 (pa_cons (pv 2) pa_nil)) pa_nil)) (pa_cons (pe_call (ok_edges TX) (hr.mono (by decide)) (by rfl) TX.g_edges TX.f_edges.kp TX.bd_edges .nil pass0 (pa_cons (pe_call (ok_tree_of TX) (hr.mono (by decide)) (by rfl) TX.g_tree_of TX.f_tree_of.kp TX.bd_tree_of .nil pass0 (pa_cons (pv 5) pa_nil)) pa_nil)) pa_nil)) (by rfl))
      (pss_one (ps_ret (pe_cmpR (op_eqD hr.units) (pe_lc (own := [("_law_pair", 11)]) (by rfl) sc_L_right.nd (k_piT (K := K) rfl (pe_revT (K := K) rfl (pv 9))) (blkOk_by (own := [("_law_pair", 11)]) (N := N_L_right) (sc := defScope s_L_right) (by decide +kernel)) (fun _ _ _ _ _ => (pg_name (i := 11) sc_L_right.nd rfl (Or.inl rfl))) (fun _ _ _ _ _ => pts_nil) (fun _ _ _ _ _ => (pe_revT (K := K) rfl (pv 11)))) (pe_callTy (T := "list") (k_listOf (K := K) rfl) (by rfl) TX.b_list (by decide +kernel) (pa_cons (pv 8) pa_nil)) (nomark _)))))))))))))), ?_⟩
    refine ⟨.ref a, rfl, .ref a, rfl, a, _, _, rfl, hp, by omega, by decide, by decide, fun H1 r b1 p1 r0 r1 => ⟨_, _, rfl, rfl, sz60 (by simp), fun lp nlp => ?_⟩⟩
    have s2 := same_upd (o := .lst [V.int 12, V.int (1 + r), V.int 7]) nlp
    refine ⟨a, lp, _, _, rfl, p1.same s2, by omega, upd_same, p1.ne nlp, by simp, by simp, fun H3 v b3 p3 hv => ?_⟩
    obtain ⟨k, rfl, hk⟩ : ∃ k : Nat, v = .int (k : Int) ∧ k ≤ 12 := by
      simp only [List.mem_cons, List.not_mem_nil, or_false] at hv
      rcases hv with rfl | rfl | rfl
      · exact ⟨12, rfl, by omega⟩
      · exact ⟨(1 + r).toNat, by congr 1; omega, by omega⟩
      · exact ⟨7, rfl, by omega⟩
    have b03 : But a H H3 := (b1.trans (.of s2)).trans b3
    refine ⟨.ref a, rfl, _, rfl, a, k, _, rfl, p3, by omega, by omega, fun H4 pl t b4 p4 ht hpl => ?_⟩
    refine ⟨_, rfl, _, rfl, by omega, by omega, fun D nD => ?_⟩
    rw [show ((k : Int)).toNat = k by omega]
    refine lc_drawn (z := 9) (by omega) nD p4 (fun x => rfl) (fun x H' m R hm b p hR => ⟨.ref a, rfl, a, _, _, rfl, p, by omega, by decide, by decide, fun H'' r b5 p5 r0 r1 => ?_⟩) (fun H5 ss b5 p5 hss lss zss => ?_)
    · obtain ⟨r', rfl⟩ : ∃ r' : Nat, r = (r' : Int) := ⟨r.toNat, by omega⟩
      exact hR H'' r' b5 p5 (by omega)
    refine ⟨D, _, rfl, .inl ⟨.inl (.inl hss), fun o no => ?_⟩⟩
    have so := same_upd (o := .tup (vi ss)) no
    have hA5 : SqT K (upd H5 o (.tup (vi ss))) pl (vi t.sch) := Same.tup so ((p4.keep (K := K) b5) _ _ hpl)
    have hB5 : SqT K (upd H5 o (.tup (vi ss))) o (vi ss) := .inl (.inl upd_same)
    have p5' := p5.same so
    have b05 : But a H (upd H5 o (.tup (vi ss))) := ((b03.trans b4).trans b5).trans (.of so)
    generalize upd H5 o (.tup (vi ss)) = G5 at hA5 hB5 p5' b05 ⊢
    refine ⟨_, rfl, _, rfl, by omega, by omega, fun D2 nD2 => ?_⟩
    rw [show ((k : Int)).toNat = k by omega]
    refine lc_drawn (z := 9) (by omega) nD2 p5' (fun x => rfl) (fun x H' m R hm b p hR => ⟨.ref a, rfl, a, _, _, rfl, p, by omega, by decide, by decide, fun H'' r b5 p5 r0 r1 => ?_⟩) (fun H6 rs b6 p6 hrs lrs zrs => ?_)
    · obtain ⟨r', rfl⟩ : ∃ r' : Nat, r = (r' : Int) := ⟨r.toNat, by omega⟩
      exact hR H'' r' b5 p5 (by omega)
    refine ⟨D2, _, rfl, .inl ⟨.inl (.inl hrs), fun o2 no2 => ?_⟩⟩
    have so2 := same_upd (o := .tup (vi rs)) no2
    have hA := Same.tup so2 ((p5'.keep (K := K) b6) _ _ hA5)
    have hB := Same.tup so2 ((p5'.keep (K := K) b6) _ _ hB5)
    have hC : SqT K (upd H6 o2 (.tup (vi rs))) o2 (vi rs) := .inl (.inl upd_same)
    have p7 := p6.same so2
    have b07 := (b05.trans b6).trans (.of so2)
    generalize upd H6 o2 (.tup (vi rs)) = H7 at hA hB hC p7 b07 ⊢
    have hzm : t.mir.size = t.size := mir_size t
    refine ⟨.ref pl, rfl, pl, t, rfl, hA, by omega, fun H8 mp s8 hM => ?_⟩
    refine ⟨.ref pl, rfl, .ref o, rfl, .ref o2, rfl, pl, o, o2, t, ss, rs, rfl, Same.tup s8 hA, Same.tup s8 hB, Same.tup s8 hC, by omega, by omega, by omega, fun z hz => by have := zss z hz; omega, fun z hz => by have := zrs z hz; omega, fun H9 f1 s9 hf1 => ?_⟩
    have s79 := s8.trans s9
    refine ⟨.ref mp, rfl, .ref o2, rfl, o2, _, rfl, Same.tup s79 hC, fun ro2 nro2 => ?_⟩
    have s10 := same_upd (o := .tup (vi rs).reverse) nro2
    refine ⟨.ref o, rfl, o, _, rfl, Same.tup (s79.trans s10) hB, fun ro nro => ?_⟩
    have s11 := same_upd (o := .tup (vi ss).reverse) nro
    have s911 := s10.trans s11
    have hro2 := s11 _ _ (upd_same (H := H9) (a := ro2) (o := .tup (vi rs).reverse))
    have hro := upd_same (H := upd H9 ro2 (.tup (vi rs).reverse)) (a := ro) (o := .tup (vi ss).reverse)
    generalize upd (upd H9 ro2 (.tup (vi rs).reverse)) ro (.tup (vi ss).reverse) = H11 at s911 hro2 hro ⊢
    rw [vi_rev] at hro hro2
    have s711 := s79.trans s911
    have hM11 := Same.tup (s9.trans s911) hM
    have hF11 := s911 _ _ hf1
    refine ⟨mp, ro2, ro, t.mir, rs.reverse, ss.reverse, rfl, hM11, .inl (.inl hro2), .inl (.inl hro), by omega, by rw [List.length_reverse]; omega, by rw [List.length_reverse]; omega, fun z hz => by have := zrs z (List.mem_reverse.mp hz); omega, fun z hz => by have := zss z (List.mem_reverse.mp hz); omega, fun H12 f2 s12 hf2 => ?_⟩
    have e1 : dot (ci rs.reverse) t.mir.wr = dot (ci rs) t.rc := by rw [ci_rev, mir_wr, dot_rev _ _ (by rw [ci, List.length_map, T.rc_len]; omega)]
    have e2 : dot (ci ss.reverse) t.mir.rc = dot (ci ss) t.wr := by rw [ci_rev, mir_rc, dot_rev _ _ (by rw [ci, List.length_map, T.wr_len]; omega)]
    rw [e1, e2] at hf2
    have s712 := s711.trans s12
    refine ⟨.ref f2, rfl, .ref f1, rfl, f1, _, rfl, .inl (.inl (s12 _ _ hF11)), fun rf nrf => ?_⟩
    have s13 := same_upd (o := .tup ([V.int (dot (ci ss) t.wr), V.int (dot (ci rs) t.rc)]).reverse) nrf
    refine ne_data (d := .tuple ([dot (ci rs) t.rc, dot (ci ss) t.wr].map PyData.int)) (k := 1) (.tup (.inl (.inl (s13 _ _ hf2))) (dp_ints [dot (ci rs) t.rc, dot (ci ss) t.wr])) (.tup (.inl (.inl upd_same)) (dp_ints [dot (ci rs) t.rc, dot (ci ss) t.wr])) (Sh.tup (k := 0) (Sh.ints _)) (by decide) ⟨_, rfl, iteF ?_⟩
    have hM13 := Same.tup (s12.trans s13) hM11
    have s713 := s712.trans s13
    generalize upd H12 rf _ = H13 at hM13 s713 ⊢
    refine ⟨.ref mp, rfl, mp, t.mir, rfl, hM13, by omega, fun H14 o4 s14 ho4 => ⟨.ref pl, rfl, ?_⟩⟩
    rw [mir_mir, vi_ci] at ho4
    have s714 := s713.trans s14
    refine ne_ints ho4 (by rw [← vi_ci]; exact Same.tup s714 hA) ⟨_, rfl, iteF ?_⟩
    have hM14 := Same.tup s14 hM13
    have hA14 := Same.tup s714 hA
    have b014 : But a H H14 := b07.trans (.of s714)
    have p14 := p7.same s714
    clear s79 s713 s712 s711 s714 hM13 ho4 s14 s12 s8 s9 hM hM11 hf1 hF11 hf2 hro hro2 s911 hB hC hB5 hA5 hss hrs
    refine ⟨.ref mp, rfl, mp, t.mir, rfl, hM14, by omega, fun H15 w1 s15 hw1 => ?_⟩
    refine ⟨w1, _, rfl, hw1, fun p3 np3 => ?_⟩
    have z15 := s15.trans (same_upd (o := .tup (vi t.mir.wr).reverse) np3)
    have hw1' := upd_same (H := H15) (a := p3) (o := .tup (vi t.mir.wr).reverse)
    generalize upd H15 p3 _ = G15 at z15 hw1' ⊢
    refine ⟨.ref pl, rfl, pl, t, rfl, Same.tup z15 hA14, by omega, fun H16 w2 s16 hw2 => ?_⟩
    have e3 : (vi t.mir.wr).reverse = (ci t.rc).map V.int := by rw [vi_rev, mir_wr, List.reverse_reverse, vi_ci]
    have e4 : (vi t.mir.rc).reverse = (ci t.wr).map V.int := by rw [vi_rev, mir_rc, List.reverse_reverse, vi_ci]
    rw [e3] at hw1'
    refine ne_ints (.inl (.inl (s16 _ _ hw1'))) (by rw [← vi_ci]; exact hw2) ⟨_, rfl, iteF ?_⟩
    have z16 := z15.trans s16
    refine ⟨.ref mp, rfl, mp, t.mir, rfl, Same.tup z16 hM14, by omega, fun H17 w3 s17 hw3 => ?_⟩
    refine ⟨w3, _, rfl, hw3, fun p4' np4 => ?_⟩
    have z17 := (z16.trans s17).trans (same_upd (o := .tup (vi t.mir.rc).reverse) np4)
    have hw3' := upd_same (H := H17) (a := p4') (o := .tup (vi t.mir.rc).reverse)
    generalize upd H17 p4' _ = G17 at z17 hw3' ⊢
    refine ⟨.ref pl, rfl, pl, t, rfl, Same.tup z17 hA14, by omega, fun H18 w4 s18 hw4 => ?_⟩
    rw [e4] at hw3'
    refine ne_ints (.inl (.inl (s18 _ _ hw3'))) (by rw [← vi_ci]; exact hw4) ⟨_, rfl, iteF ?_⟩
    have z18 := z17.trans s18
    have hM18 := Same.tup z18 hM14
    have hA18 := Same.tup z18 hA14
    have b018 := b014.trans (.of z18)
    have p18 := p14.same z18
    clear z15 z16 z17 hw1 hw2 hw3 hw4 hw1' hw3' s15 s16 s17 s18 hM14 hA14 p14 b014
    refine ⟨.ref pl, rfl, pl, t, rfl, hA18, by omega, fun H19 tr o19 s19 hT o19d => ?_⟩
    refine ⟨tr, t, rfl, .inl (.inr ⟨_, hT⟩), by omega, fun H20 ed s20 hE => ?_⟩
    have s1820 := s19.trans s20
    refine ⟨.ref mp, rfl, mp, t.mir, rfl, Same.tup s1820 hM18, by omega, fun H21 tr2 o21 s21 hT2 o21d => ?_⟩
    refine ⟨tr2, t.mir, rfl, .inl (.inr ⟨_, hT2⟩), by omega, fun H22 ed2 s22 hE2 => ⟨_, _, rfl, ?_⟩⟩
    have s2022 := s21.trans s22
    have hE' := Dp.same s2022 hE
    have b022 := b018.trans (.of (s1820.trans s2022))
    have p22 := p18.same (s1820.trans s2022)
    obtain ⟨ea, es, e, hX, hXA⟩ := Dp.tupInv hE'
    cases e
    obtain ⟨ea2, es2, e, hX2, hXA2⟩ := Dp.tupInv hE2
    cases e
    have l2 := DpAll.len hXA2
    rw [dEdges_len, hzm] at l2
    refine ⟨_, rfl, ed2, _, rfl, hX2, fun re nre => ?_⟩
    have s23 := same_upd (o := .tup es2.reverse) nre
    have hre := upd_same (H := H22) (a := re) (o := .tup es2.reverse)
    generalize upd H22 re _ = H23 at s23 hre ⊢
    refine ⟨re, rfl, ⟨_, .inl (.inl hre)⟩, fun D3 nD3 => ?_⟩
    refine lc_all (K := K) (walk_tup (xs := es2.reverse)) (dEdges t) (by rw [dEdges_len, List.length_reverse, l2]) (tf_edges t) (by rw [List.length_reverse]; omega) nD3 (fun H' s' => Same.tup s' (.inl (.inl hre))) ?_ ?_ (fun x σ' H' Q Q' h => h _ _) (fun σ' H' Q Q' h => h _ _)
    · rintro i x Hx Hx' hi sx ⟨rfl, hx⟩ d hd R hR
      rw [List.length_reverse, l2] at hi
      rw [dEdges_at hi] at hd
      cases hd
      rw [List.getElem?_reverse (by omega), l2] at hx
      obtain ⟨v, g1, g2⟩ := DpAll.get (DpAll.same (s23.trans sx) hXA2) (dEdges_at (t := t.mir) (i := t.size - 1 - i) (by omega))
      rw [hx] at g1
      cases g1
      obtain ⟨b, rfl, hb⟩ := Dp.intsInv (ns := [(t.mir.wr.getD (t.size - 1 - i) 0 : Int) - 1, (t.mir.rc.getD (t.size - 1 - i) 0 : Int) - 1]) g2
      refine ⟨rfl, rfl, _, rfl, b, _, rfl, hb, fun np nnp => hR _ _ (same_upd nnp) ?_⟩
      rw [mir_ed hi]
      exact .tup (.inl (.inl upd_same)) (dp_ints [(t.mir.rc.getD (t.size - 1 - i) 0 : Int) - 1, (t.mir.wr.getD (t.size - 1 - i) 0 : Int) - 1])
    intro H24 acc s24 ha hAcc
    refine ⟨_, rfl, ed, _, rfl, .inr (Same.tup (s23.trans s24) hX), fun lo nlo => ?_⟩
    have s25 := same_upd (o := .lst es) nlo
    refine eq_data (d := .list (dEdges t)) (k := 2) (.lst (.inl (.inl (s25 _ _ ha))) (DpAll.same s25 hAcc)) (.lst (.inl (.inl upd_same)) (DpAll.same ((s23.trans s24).trans s25) hXA)) (Sh.lst (k := 1) (sh_edges t)) (by decide) ?_
    have s2225 := (s23.trans s24).trans s25
    exact q _ (b022.trans (.of s2225)) ((p22.same s2225).mono (by omega))
end
/-- calls that draw, each true -/
theorem lc_trues {lo : Int} {n j : Nat} {vs : List Nat} {σ : L2.St} {H1 : Hp} {D a : Addr} {Qd : Hp → Prop} {te : TE} {n0 z : Int} (hn : n ≤ 60) (hD : H1 D = none) (hp : Deal H1 a n0)
    (hw : ∀ x, wipe ((wipe σ vs).set j (some x)) vs = wipe σ vs)
    (ht : ∀ (i : Nat) H' (R : V → Hp → Prop), i < n → But a H1 H' → Deal H' a (n0 + z * (i : Int)) → (∀ H'', But a H' H'' → Deal H'' a (n0 + z * (i : Int) + z) → R (.bl true) H'') → te ((wipe σ vs).set j (some (.int (lo + (i : Int))))) H' R)
    (hd : ∀ H, But a H1 H → Deal H a (n0 + z * (n : Int)) → H D = some (.lst ((List.replicate n true).map V.bl)) → Qd H) :
    ∃ W : Nat → Nat → Hp → Prop, (∃ m, W 0 m (upd H1 D (.lst []))) ∧ ∀ i m H, W i m H →
      ((Itr lo n).stop i H ∧ Qd H) ∨ ((Itr lo n).go i H ∧ ∃ Nx : Hp → Prop, (∀ H', Nx H' → ∃ m', m' < m ∧ W (i + 1) m' H') ∧ ∀ x H', (Itr lo n).yld i H x H' → gName j x (wipe σ vs) H' fun σ2 H2 => wipe σ2 vs = wipe σ vs ∧ tYes σ2 H2 fun b H3 =>
        if b = true then te σ2 H3 fun y H4 => ∃ acc, H4 D = some (.lst acc) ∧ acc.length < sizeLine ∧ Nx (upd H4 D (.lst (acc ++ [y]))) else Nx H3) := by
  have nDa : D ≠ a := hp.ne hD
  refine lc_it walk_range (fun i H => But a H1 H ∧ Deal H a (n0 + z * (i : Int)) ∧ H D = some (.lst ((List.replicate i true).map V.bl)))
    ⟨.of (same_upd hD), (hp.upd nDa).mono (by simp), upd_same⟩ (fun _ _ _ _ => trivial) ?_ ?_
  · rintro i x H H' hi ⟨b, p, hx⟩ ⟨rfl, rfl⟩
    refine ⟨hw _, ?_⟩
    simp only [tYes, if_true]
    refine ht i _ _ hi b p fun H2 b2 p2 => ?_
    have hx2 := b2 _ _ nDa hx
    have e : n0 + z * (i : Int) + z = n0 + z * ((i + 1 : Nat) : Int) := by
      rw [show ((i + 1 : Nat) : Int) = (i : Int) + 1 by omega, Int.mul_add, Int.mul_one]; omega
    rw [e] at p2
    refine ⟨_, hx2, sz61 (by simp; omega), (b.trans b2).mut hD, p2.upd nDa, ?_⟩
    rw [upd_same, List.replicate_succ', List.map_append]
    rfl
  · rintro H ⟨b, p, hx⟩
    exact hd H b p hx
theorem all_rep (n : Nat) : (List.replicate n true).all id = true := by simp
section
variable {P : Program} {w : World} {K : PySem.W.Frag} {mg : Str → Option Value} {base : Heap}
def sp_law (K : PySem.W.Frag) : Sp := fun vs H Q _ => ∃ (a : Addr) (ns : List Int), vs = [.ref a] ∧ SqL K H a (ns.map V.int) ∧ ns.length ≤ 63 ∧ ∀ H', Q (.bl true) H'
theorem ok_law (TX : Tx K mg) [WP w TX] : FnOk P w K mg base CX0 13 TX.a_law TX.fd_law ["_law_script"] (sp_law K) := by
  refine TX.f_law.ok sc_law (fun vs H Q E h => ?_) (fun cdv A outer s H vs Q E hr h => ?_)
  · obtain ⟨a, ns, rfl, _⟩ := h; rfl
  · obtain ⟨a, ns, rfl, hS, hlen, q⟩ := h
    refine ⟨_, (pss_cons (ps_for PassesOwn.never rfl (pi_range1 (by rfl) TX.b_range (pa_cons (pe_callB (id := "max") (call_max2 rfl) (by rfl) TX.b_max (by decide +kernel) (pa_cons pe_int (pa_cons (pe_callB (id := "min") (call_min2 rfl) (by rfl) TX.b_min (by decide +kernel) (pa_cons pe_int (pa_cons (pe_callB (id := "len") (k_len (K := K) rfl) (by rfl) TX.b_len (by decide +kernel) (pa_cons (pv 0) pa_nil)) pa_nil))) pa_nil))) pa_nil)) (pg_name (i := 1) sc_law.nd rfl (.inl rfl))
        (pss_cons (ps_set (i := 2) sc_law.nd rfl (.inr rfl) (pe_call (ok_L_start_draws TX) (hr.mono (by decide)) (by rfl) TX.g_L_start_draws TX.f_L_start_draws.kp TX.bd_L_start_draws .nil pass0 (pa_cons (pv 0) (pa_cons (pv 1) pa_nil))))
        (pss_one (ps_if (pt_not (pt_val (pe_callB (id := "all") (cr_all rfl) (by rfl) TX.b_all (by decide +kernel) (pa_cons (pe_lc (own := [("_law_turn", 3)]) (by rfl) sc_law.nd (pi_range1 (by rfl) TX.b_range (pa_cons pe_int pa_nil)) (blkOk_by (own := [("_law_turn", 3)]) (N := N_law) (sc := defScope s_law) (by decide +kernel)) (fun _ _ _ _ _ => (pg_name (i := 3) sc_law.nd rfl (Or.inl rfl))) (fun _ _ _ _ _ => pts_nil) (fun _ _ _ _ _ => (pe_call (ok_L_right (w := w) TX) (hr.mono (by decide)) (by rfl) TX.g_L_right TX.f_L_right.kp TX.bd_L_right .nil pass0 (pa_cons (pv 2) pa_nil)))) pa_nil))))
          (pss_one (ps_ret pe_bl))
          pss_nil))))
      (pss_one (ps_ret pe_bl))), ?_⟩
    refine ⟨_, rfl, a, _, rfl, .inl hS, _, _, rfl, _, _, rfl, ?_⟩
    obtain ⟨m, hm, hm2⟩ : ∃ m : Nat, (if (if ((ns.map V.int).length : Int) < 2 then ((ns.map V.int).length : Int) else 2) > 1 then (if ((ns.map V.int).length : Int) < 2 then ((ns.map V.int).length : Int) else 2) else 1) = (m : Int) ∧ m ≤ 2 := by
      refine ⟨(if (if ((ns.map V.int).length : Int) < 2 then ((ns.map V.int).length : Int) else 2) > 1 then (if ((ns.map V.int).length : Int) < 2 then ((ns.map V.int).length : Int) else 2) else 1).toNat, ?_, ?_⟩ <;> (split <;> split <;> omega)
    rw [hm]
    refine ⟨_, rfl, by omega, by omega, for_range (lo := 0) (fun i σ H' => ∃ y1 y2 y3, σ = [some (.ref a), y1, y2, y3] ∧ Same H H') ⟨_, _, _, rfl, Same.refl _⟩ ?_ ?_⟩
    · rintro i σ H' hi ⟨y1, y2, y3, rfl, s1⟩
      have ei : (0 : Int) + ((i : Nat) : Int) = ((i : Nat) : Int) := by omega
      rw [ei]
      refine ⟨_, rfl, _, rfl, a, ns, i, rfl, s1.seq hS, by omega, fun H2 p s2 np dp => ?_⟩
      refine ⟨_, rfl, by decide, by decide, fun D nD => ?_⟩
      refine lc_trues (n := 4) (z := 1000) (by decide) nD dp (fun x => rfl) (fun i' H3 R hi b3 p3 hR => ⟨_, rfl, p, _, rfl, p3, by omega, hR⟩) (fun H3 b3 p3 hD3 => ?_)
      refine ⟨D, List.replicate 4 true, rfl, .inl (.inl hD3), _, rfl, ?_⟩
      rw [all_rep]
      exact iteF ⟨_, _, _, rfl, fun c o e => b3 c o (fun z => by rw [z, s1.free np] at e; cases e) (s2 _ _ (s1 _ _ e))⟩
    · rintro σ H' ⟨y1, y2, y3, rfl, s1⟩
      exact q _
end
theorem all_mk {l : PySem.W.OpenLaw} {w : World} {K : PySem.W.Frag} {h : Heap} {mg : Str → Option Value} {fa : Addr} (X : K.In h) (G : h.Ns mainGlobals mg) (hfa : mg "law" = some (.ref fa))
    {C_Store : Addr} (ac_Store : PySem.W.nsIn K mainGlobals "Store" = some (some (.ref C_Store))) (pg_Store : PySem.W.plainGet K C_Store Str.empty = true) (hd_Store : PySem.W.hasDictIn K C_Store = true) (po_Store : PySem.W.plainOver K C_Store = true) (sa_Store : PySem.W.findIn K (.ref C_Store) "__setattr__" = some (some (.builtin "object.__setattr__"))) (mm_Store : PySem.W.makesIn K C_Store = true) (kc_Store : PySem.W.keepIn K (.ref C_Store) = true)
    (na_Store_rule : PySem.W.findIn K (.ref C_Store) "rule" = some none)
    (na_Store_merges : PySem.W.findIn K (.ref C_Store) "merges" = some none)
    (na_Store_batches : PySem.W.findIn K (.ref C_Store) "batches" = some none)
    (na_Store_buffer : PySem.W.findIn K (.ref C_Store) "buffer" = some none)
    (na_Store_history : PySem.W.findIn K (.ref C_Store) "history" = some none)
    (na_Store_searched : PySem.W.findIn K (.ref C_Store) "searched" = some none)
    {d_POLICIES : Addr} {es_POLICIES : Array DictEntry} {en_POLICIES : Nat} (ad_POLICIES : PySem.W.nsIn K mainGlobals "POLICIES" = some (some (.ref d_POLICIES))) (kl_POLICIES : K.lookup d_POLICIES = some ⟨.type "dict", none, .dict es_POLICIES en_POLICIES, #[]⟩) (ks_POLICIES : PySem.W.KeysLit w.params es_POLICIES.toList) (kn_POLICIES : (d_POLICIES == sysModules) = false)
    {t_POLICIES_manual : Tok} (ke_POLICIES_manual : PySem.W.nsIn K d_POLICIES "manual" = some (some (.int 0 t_POLICIES_manual)))
    {t_POLICIES_runs : Tok} (ke_POLICIES_runs : PySem.W.nsIn K d_POLICIES "runs" = some (some (.int 1 t_POLICIES_runs)))
    {t_POLICIES_budget : Tok} (ke_POLICIES_budget : PySem.W.nsIn K d_POLICIES "budget" = some (some (.int 2 t_POLICIES_budget)))
    {f_is_int : Addr} {od_is_int an_is_int : Option Addr} {sl_is_int : Array (Option Value)} {oc_is_int kV_is_int dc_is_int pm_is_int cd_is_int ct_is_int : Value}
    (a_is_int : PySem.W.nsIn K mainGlobals "is_int" = some (some (.ref f_is_int))) (l_is_int : K.lookup f_is_int = some ⟨oc_is_int, od_is_int, .func (PySem.W.fnOf "is_int" "is_int" (defArgs s_is_int) (defBody s_is_int) (defScope s_is_int) .none kV_is_int dc_is_int pm_is_int an_is_int cd_is_int ct_is_int), sl_is_int⟩) (c_is_int : PySem.W.codeIn K cd_is_int "is_int" = true) (k_is_int : PySem.W.keepIn K (.ref f_is_int) = true)
    {f_is_count : Addr} {od_is_count an_is_count : Option Addr} {sl_is_count : Array (Option Value)} {oc_is_count kV_is_count dc_is_count pm_is_count cd_is_count ct_is_count : Value}
    (a_is_count : PySem.W.nsIn K mainGlobals "is_count" = some (some (.ref f_is_count))) (l_is_count : K.lookup f_is_count = some ⟨oc_is_count, od_is_count, .func (PySem.W.fnOf "is_count" "is_count" (defArgs s_is_count) (defBody s_is_count) (defScope s_is_count) .none kV_is_count dc_is_count pm_is_count an_is_count cd_is_count ct_is_count), sl_is_count⟩) (c_is_count : PySem.W.codeIn K cd_is_count "is_count" = true) (k_is_count : PySem.W.keepIn K (.ref f_is_count) = true)
    {f_is_count_up_to : Addr} {od_is_count_up_to an_is_count_up_to : Option Addr} {sl_is_count_up_to : Array (Option Value)} {oc_is_count_up_to kV_is_count_up_to dc_is_count_up_to pm_is_count_up_to cd_is_count_up_to ct_is_count_up_to : Value}
    (a_is_count_up_to : PySem.W.nsIn K mainGlobals "is_count_up_to" = some (some (.ref f_is_count_up_to))) (l_is_count_up_to : K.lookup f_is_count_up_to = some ⟨oc_is_count_up_to, od_is_count_up_to, .func (PySem.W.fnOf "is_count_up_to" "is_count_up_to" (defArgs s_is_count_up_to) (defBody s_is_count_up_to) (defScope s_is_count_up_to) .none kV_is_count_up_to dc_is_count_up_to pm_is_count_up_to an_is_count_up_to cd_is_count_up_to ct_is_count_up_to), sl_is_count_up_to⟩) (c_is_count_up_to : PySem.W.codeIn K cd_is_count_up_to "is_count_up_to" = true) (k_is_count_up_to : PySem.W.keepIn K (.ref f_is_count_up_to) = true)
    {f_are_loads : Addr} {od_are_loads an_are_loads : Option Addr} {sl_are_loads : Array (Option Value)} {oc_are_loads kV_are_loads dc_are_loads pm_are_loads cd_are_loads ct_are_loads : Value}
    (a_are_loads : PySem.W.nsIn K mainGlobals "are_loads" = some (some (.ref f_are_loads))) (l_are_loads : K.lookup f_are_loads = some ⟨oc_are_loads, od_are_loads, .func (PySem.W.fnOf "are_loads" "are_loads" (defArgs s_are_loads) (defBody s_are_loads) (defScope s_are_loads) .none kV_are_loads dc_are_loads pm_are_loads an_are_loads cd_are_loads ct_are_loads), sl_are_loads⟩) (c_are_loads : PySem.W.codeIn K cd_are_loads "are_loads" = true) (k_are_loads : PySem.W.keepIn K (.ref f_are_loads) = true)
    {f_check_sizes : Addr} {od_check_sizes an_check_sizes : Option Addr} {sl_check_sizes : Array (Option Value)} {oc_check_sizes kV_check_sizes dc_check_sizes pm_check_sizes cd_check_sizes ct_check_sizes : Value}
    (a_check_sizes : PySem.W.nsIn K mainGlobals "check_sizes" = some (some (.ref f_check_sizes))) (l_check_sizes : K.lookup f_check_sizes = some ⟨oc_check_sizes, od_check_sizes, .func (PySem.W.fnOf "check_sizes" "check_sizes" (defArgs s_check_sizes) (defBody s_check_sizes) (defScope s_check_sizes) .none kV_check_sizes dc_check_sizes pm_check_sizes an_check_sizes cd_check_sizes ct_check_sizes), sl_check_sizes⟩) (c_check_sizes : PySem.W.codeIn K cd_check_sizes "check_sizes" = true) (k_check_sizes : PySem.W.keepIn K (.ref f_check_sizes) = true)
    {f_is_schedule : Addr} {od_is_schedule an_is_schedule : Option Addr} {sl_is_schedule : Array (Option Value)} {oc_is_schedule kV_is_schedule dc_is_schedule pm_is_schedule cd_is_schedule ct_is_schedule : Value}
    (a_is_schedule : PySem.W.nsIn K mainGlobals "is_schedule" = some (some (.ref f_is_schedule))) (l_is_schedule : K.lookup f_is_schedule = some ⟨oc_is_schedule, od_is_schedule, .func (PySem.W.fnOf "is_schedule" "is_schedule" (defArgs s_is_schedule) (defBody s_is_schedule) (defScope s_is_schedule) .none kV_is_schedule dc_is_schedule pm_is_schedule an_is_schedule cd_is_schedule ct_is_schedule), sl_is_schedule⟩) (c_is_schedule : PySem.W.codeIn K cd_is_schedule "is_schedule" = true) (k_is_schedule : PySem.W.keepIn K (.ref f_is_schedule) = true)
    {f_stacks : Addr} {od_stacks an_stacks : Option Addr} {sl_stacks : Array (Option Value)} {oc_stacks kV_stacks dc_stacks pm_stacks cd_stacks ct_stacks : Value}
    (a_stacks : PySem.W.nsIn K mainGlobals "stacks" = some (some (.ref f_stacks))) (l_stacks : K.lookup f_stacks = some ⟨oc_stacks, od_stacks, .func (PySem.W.fnOf "stacks" "stacks" (defArgs s_stacks) (defBody s_stacks) (defScope s_stacks) .none kV_stacks dc_stacks pm_stacks an_stacks cd_stacks ct_stacks), sl_stacks⟩) (c_stacks : PySem.W.codeIn K cd_stacks "stacks" = true) (k_stacks : PySem.W.keepIn K (.ref f_stacks) = true)
    {f_stack_after : Addr} {od_stack_after an_stack_after : Option Addr} {sl_stack_after : Array (Option Value)} {oc_stack_after kV_stack_after dc_stack_after pm_stack_after cd_stack_after ct_stack_after : Value}
    (a_stack_after : PySem.W.nsIn K mainGlobals "stack_after" = some (some (.ref f_stack_after))) (l_stack_after : K.lookup f_stack_after = some ⟨oc_stack_after, od_stack_after, .func (PySem.W.fnOf "stack_after" "stack_after" (defArgs s_stack_after) (defBody s_stack_after) (defScope s_stack_after) .none kV_stack_after dc_stack_after pm_stack_after an_stack_after cd_stack_after ct_stack_after), sl_stack_after⟩) (c_stack_after : PySem.W.codeIn K cd_stack_after "stack_after" = true) (k_stack_after : PySem.W.keepIn K (.ref f_stack_after) = true)
    {f_writes : Addr} {od_writes an_writes : Option Addr} {sl_writes : Array (Option Value)} {oc_writes kV_writes dc_writes pm_writes cd_writes ct_writes : Value}
    (a_writes : PySem.W.nsIn K mainGlobals "writes" = some (some (.ref f_writes))) (l_writes : K.lookup f_writes = some ⟨oc_writes, od_writes, .func (PySem.W.fnOf "writes" "writes" (defArgs s_writes) (defBody s_writes) (defScope s_writes) .none kV_writes dc_writes pm_writes an_writes cd_writes ct_writes), sl_writes⟩) (c_writes : PySem.W.codeIn K cd_writes "writes" = true) (k_writes : PySem.W.keepIn K (.ref f_writes) = true)
    {f_run_counts : Addr} {od_run_counts an_run_counts : Option Addr} {sl_run_counts : Array (Option Value)} {oc_run_counts kV_run_counts dc_run_counts pm_run_counts cd_run_counts ct_run_counts : Value}
    (a_run_counts : PySem.W.nsIn K mainGlobals "run_counts" = some (some (.ref f_run_counts))) (l_run_counts : K.lookup f_run_counts = some ⟨oc_run_counts, od_run_counts, .func (PySem.W.fnOf "run_counts" "run_counts" (defArgs s_run_counts) (defBody s_run_counts) (defScope s_run_counts) .none kV_run_counts dc_run_counts pm_run_counts an_run_counts cd_run_counts ct_run_counts), sl_run_counts⟩) (c_run_counts : PySem.W.codeIn K cd_run_counts "run_counts" = true) (k_run_counts : PySem.W.keepIn K (.ref f_run_counts) = true)
    {f_is_tree : Addr} {od_is_tree an_is_tree : Option Addr} {sl_is_tree : Array (Option Value)} {oc_is_tree kV_is_tree dc_is_tree pm_is_tree cd_is_tree ct_is_tree : Value}
    (a_is_tree : PySem.W.nsIn K mainGlobals "is_tree" = some (some (.ref f_is_tree))) (l_is_tree : K.lookup f_is_tree = some ⟨oc_is_tree, od_is_tree, .func (PySem.W.fnOf "is_tree" "is_tree" (defArgs s_is_tree) (defBody s_is_tree) (defScope s_is_tree) .none kV_is_tree dc_is_tree pm_is_tree an_is_tree cd_is_tree ct_is_tree), sl_is_tree⟩) (c_is_tree : PySem.W.codeIn K cd_is_tree "is_tree" = true) (k_is_tree : PySem.W.keepIn K (.ref f_is_tree) = true)
    {f_is_numbered_in_order : Addr} {od_is_numbered_in_order an_is_numbered_in_order : Option Addr} {sl_is_numbered_in_order : Array (Option Value)} {oc_is_numbered_in_order kV_is_numbered_in_order dc_is_numbered_in_order pm_is_numbered_in_order cd_is_numbered_in_order ct_is_numbered_in_order : Value}
    (a_is_numbered_in_order : PySem.W.nsIn K mainGlobals "is_numbered_in_order" = some (some (.ref f_is_numbered_in_order))) (l_is_numbered_in_order : K.lookup f_is_numbered_in_order = some ⟨oc_is_numbered_in_order, od_is_numbered_in_order, .func (PySem.W.fnOf "is_numbered_in_order" "is_numbered_in_order" (defArgs s_is_numbered_in_order) (defBody s_is_numbered_in_order) (defScope s_is_numbered_in_order) .none kV_is_numbered_in_order dc_is_numbered_in_order pm_is_numbered_in_order an_is_numbered_in_order cd_is_numbered_in_order ct_is_numbered_in_order), sl_is_numbered_in_order⟩) (c_is_numbered_in_order : PySem.W.codeIn K cd_is_numbered_in_order "is_numbered_in_order" = true) (k_is_numbered_in_order : PySem.W.keepIn K (.ref f_is_numbered_in_order) = true)
    {f_tree_of : Addr} {od_tree_of an_tree_of : Option Addr} {sl_tree_of : Array (Option Value)} {oc_tree_of kV_tree_of dc_tree_of pm_tree_of cd_tree_of ct_tree_of : Value}
    (a_tree_of : PySem.W.nsIn K mainGlobals "tree_of" = some (some (.ref f_tree_of))) (l_tree_of : K.lookup f_tree_of = some ⟨oc_tree_of, od_tree_of, .func (PySem.W.fnOf "tree_of" "tree_of" (defArgs s_tree_of) (defBody s_tree_of) (defScope s_tree_of) .none kV_tree_of dc_tree_of pm_tree_of an_tree_of cd_tree_of ct_tree_of), sl_tree_of⟩) (c_tree_of : PySem.W.codeIn K cd_tree_of "tree_of" = true) (k_tree_of : PySem.W.keepIn K (.ref f_tree_of) = true)
    {f_schedule_of : Addr} {od_schedule_of an_schedule_of : Option Addr} {sl_schedule_of : Array (Option Value)} {oc_schedule_of kV_schedule_of dc_schedule_of pm_schedule_of cd_schedule_of ct_schedule_of : Value}
    (a_schedule_of : PySem.W.nsIn K mainGlobals "schedule_of" = some (some (.ref f_schedule_of))) (l_schedule_of : K.lookup f_schedule_of = some ⟨oc_schedule_of, od_schedule_of, .func (PySem.W.fnOf "schedule_of" "schedule_of" (defArgs s_schedule_of) (defBody s_schedule_of) (defScope s_schedule_of) .none kV_schedule_of dc_schedule_of pm_schedule_of an_schedule_of cd_schedule_of ct_schedule_of), sl_schedule_of⟩) (c_schedule_of : PySem.W.codeIn K cd_schedule_of "schedule_of" = true) (k_schedule_of : PySem.W.keepIn K (.ref f_schedule_of) = true)
    {f_edges : Addr} {od_edges an_edges : Option Addr} {sl_edges : Array (Option Value)} {oc_edges kV_edges dc_edges pm_edges cd_edges ct_edges : Value}
    (a_edges : PySem.W.nsIn K mainGlobals "edges" = some (some (.ref f_edges))) (l_edges : K.lookup f_edges = some ⟨oc_edges, od_edges, .func (PySem.W.fnOf "edges" "edges" (defArgs s_edges) (defBody s_edges) (defScope s_edges) .none kV_edges dc_edges pm_edges an_edges cd_edges ct_edges), sl_edges⟩) (c_edges : PySem.W.codeIn K cd_edges "edges" = true) (k_edges : PySem.W.keepIn K (.ref f_edges) = true)
    {f_edges_above : Addr} {od_edges_above an_edges_above : Option Addr} {sl_edges_above : Array (Option Value)} {oc_edges_above kV_edges_above dc_edges_above pm_edges_above cd_edges_above ct_edges_above : Value}
    (a_edges_above : PySem.W.nsIn K mainGlobals "edges_above" = some (some (.ref f_edges_above))) (l_edges_above : K.lookup f_edges_above = some ⟨oc_edges_above, od_edges_above, .func (PySem.W.fnOf "edges_above" "edges_above" (defArgs s_edges_above) (defBody s_edges_above) (defScope s_edges_above) .none kV_edges_above dc_edges_above pm_edges_above an_edges_above cd_edges_above ct_edges_above), sl_edges_above⟩) (c_edges_above : PySem.W.codeIn K cd_edges_above "edges_above" = true) (k_edges_above : PySem.W.keepIn K (.ref f_edges_above) = true)
    {f_mirror : Addr} {od_mirror an_mirror : Option Addr} {sl_mirror : Array (Option Value)} {oc_mirror kV_mirror dc_mirror pm_mirror cd_mirror ct_mirror : Value}
    (a_mirror : PySem.W.nsIn K mainGlobals "mirror" = some (some (.ref f_mirror))) (l_mirror : K.lookup f_mirror = some ⟨oc_mirror, od_mirror, .func (PySem.W.fnOf "mirror" "mirror" (defArgs s_mirror) (defBody s_mirror) (defScope s_mirror) .none kV_mirror dc_mirror pm_mirror an_mirror cd_mirror ct_mirror), sl_mirror⟩) (c_mirror : PySem.W.codeIn K cd_mirror "mirror" = true) (k_mirror : PySem.W.keepIn K (.ref f_mirror) = true)
    {f_mirrored_node : Addr} {od_mirrored_node an_mirrored_node : Option Addr} {sl_mirrored_node : Array (Option Value)} {oc_mirrored_node kV_mirrored_node dc_mirrored_node pm_mirrored_node cd_mirrored_node ct_mirrored_node : Value}
    (a_mirrored_node : PySem.W.nsIn K mainGlobals "mirrored_node" = some (some (.ref f_mirrored_node))) (l_mirrored_node : K.lookup f_mirrored_node = some ⟨oc_mirrored_node, od_mirrored_node, .func (PySem.W.fnOf "mirrored_node" "mirrored_node" (defArgs s_mirrored_node) (defBody s_mirrored_node) (defScope s_mirrored_node) .none kV_mirrored_node dc_mirrored_node pm_mirrored_node an_mirrored_node cd_mirrored_node ct_mirrored_node), sl_mirrored_node⟩) (c_mirrored_node : PySem.W.codeIn K cd_mirrored_node "mirrored_node" = true) (k_mirrored_node : PySem.W.keepIn K (.ref f_mirrored_node) = true)
    {f_write_work : Addr} {od_write_work an_write_work : Option Addr} {sl_write_work : Array (Option Value)} {oc_write_work kV_write_work dc_write_work pm_write_work cd_write_work ct_write_work : Value}
    (a_write_work : PySem.W.nsIn K mainGlobals "write_work" = some (some (.ref f_write_work))) (l_write_work : K.lookup f_write_work = some ⟨oc_write_work, od_write_work, .func (PySem.W.fnOf "write_work" "write_work" (defArgs s_write_work) (defBody s_write_work) (defScope s_write_work) .none kV_write_work dc_write_work pm_write_work an_write_work cd_write_work ct_write_work), sl_write_work⟩) (c_write_work : PySem.W.codeIn K cd_write_work "write_work" = true) (k_write_work : PySem.W.keepIn K (.ref f_write_work) = true)
    {f_weighted : Addr} {od_weighted an_weighted : Option Addr} {sl_weighted : Array (Option Value)} {oc_weighted kV_weighted dc_weighted pm_weighted cd_weighted ct_weighted : Value}
    (a_weighted : PySem.W.nsIn K mainGlobals "weighted" = some (some (.ref f_weighted))) (l_weighted : K.lookup f_weighted = some ⟨oc_weighted, od_weighted, .func (PySem.W.fnOf "weighted" "weighted" (defArgs s_weighted) (defBody s_weighted) (defScope s_weighted) .none kV_weighted dc_weighted pm_weighted an_weighted cd_weighted ct_weighted), sl_weighted⟩) (c_weighted : PySem.W.codeIn K cd_weighted "weighted" = true) (k_weighted : PySem.W.keepIn K (.ref f_weighted) = true)
    {f_is_key : Addr} {od_is_key an_is_key : Option Addr} {sl_is_key : Array (Option Value)} {oc_is_key kV_is_key dc_is_key pm_is_key cd_is_key ct_is_key : Value}
    (a_is_key : PySem.W.nsIn K mainGlobals "is_key" = some (some (.ref f_is_key))) (l_is_key : K.lookup f_is_key = some ⟨oc_is_key, od_is_key, .func (PySem.W.fnOf "is_key" "is_key" (defArgs s_is_key) (defBody s_is_key) (defScope s_is_key) .none kV_is_key dc_is_key pm_is_key an_is_key cd_is_key ct_is_key), sl_is_key⟩) (c_is_key : PySem.W.codeIn K cd_is_key "is_key" = true) (k_is_key : PySem.W.keepIn K (.ref f_is_key) = true)
    {f_check_key : Addr} {od_check_key an_check_key : Option Addr} {sl_check_key : Array (Option Value)} {oc_check_key kV_check_key dc_check_key pm_check_key cd_check_key ct_check_key : Value}
    (a_check_key : PySem.W.nsIn K mainGlobals "check_key" = some (some (.ref f_check_key))) (l_check_key : K.lookup f_check_key = some ⟨oc_check_key, od_check_key, .func (PySem.W.fnOf "check_key" "check_key" (defArgs s_check_key) (defBody s_check_key) (defScope s_check_key) .none kV_check_key dc_check_key pm_check_key an_check_key cd_check_key ct_check_key), sl_check_key⟩) (c_check_key : PySem.W.codeIn K cd_check_key "check_key" = true) (k_check_key : PySem.W.keepIn K (.ref f_check_key) = true)
    {f_is_policy : Addr} {od_is_policy an_is_policy : Option Addr} {sl_is_policy : Array (Option Value)} {oc_is_policy kV_is_policy dc_is_policy pm_is_policy cd_is_policy ct_is_policy : Value}
    (a_is_policy : PySem.W.nsIn K mainGlobals "is_policy" = some (some (.ref f_is_policy))) (l_is_policy : K.lookup f_is_policy = some ⟨oc_is_policy, od_is_policy, .func (PySem.W.fnOf "is_policy" "is_policy" (defArgs s_is_policy) (defBody s_is_policy) (defScope s_is_policy) .none kV_is_policy dc_is_policy pm_is_policy an_is_policy cd_is_policy ct_is_policy), sl_is_policy⟩) (c_is_policy : PySem.W.codeIn K cd_is_policy "is_policy" = true) (k_is_policy : PySem.W.keepIn K (.ref f_is_policy) = true)
    {f_Store___init__ : Addr} {od_Store___init__ an_Store___init__ : Option Addr} {sl_Store___init__ : Array (Option Value)} {oc_Store___init__ kV_Store___init__ dc_Store___init__ pm_Store___init__ cd_Store___init__ ct_Store___init__ : Value}
    (a_Store___init__ : PySem.W.findIn K (.ref C_Store) "__init__" = some (some (.ref f_Store___init__))) (if_Store___init__ : PySem.W.isFn K (.ref f_Store___init__) = true) (l_Store___init__ : K.lookup f_Store___init__ = some ⟨oc_Store___init__, od_Store___init__, .func (PySem.W.fnOf "__init__" "Store.__init__" (defArgs s_Store___init__) (defBody s_Store___init__) (defScope s_Store___init__) .none kV_Store___init__ dc_Store___init__ pm_Store___init__ an_Store___init__ cd_Store___init__ ct_Store___init__), sl_Store___init__⟩) (c_Store___init__ : PySem.W.codeIn K cd_Store___init__ "Store.__init__" = true) (k_Store___init__ : PySem.W.keepIn K (.ref f_Store___init__) = true)
    {f_Store_put : Addr} {od_Store_put an_Store_put : Option Addr} {sl_Store_put : Array (Option Value)} {oc_Store_put kV_Store_put dc_Store_put pm_Store_put cd_Store_put ct_Store_put : Value}
    (a_Store_put : PySem.W.findIn K (.ref C_Store) "put" = some (some (.ref f_Store_put))) (if_Store_put : PySem.W.isFn K (.ref f_Store_put) = true) (l_Store_put : K.lookup f_Store_put = some ⟨oc_Store_put, od_Store_put, .func (PySem.W.fnOf "put" "Store.put" (defArgs s_Store_put) (defBody s_Store_put) (defScope s_Store_put) .none kV_Store_put dc_Store_put pm_Store_put an_Store_put cd_Store_put ct_Store_put), sl_Store_put⟩) (c_Store_put : PySem.W.codeIn K cd_Store_put "Store.put" = true) (k_Store_put : PySem.W.keepIn K (.ref f_Store_put) = true)
    {f_Store_write : Addr} {od_Store_write an_Store_write : Option Addr} {sl_Store_write : Array (Option Value)} {oc_Store_write kV_Store_write dc_Store_write pm_Store_write cd_Store_write ct_Store_write : Value}
    (a_Store_write : PySem.W.findIn K (.ref C_Store) "write" = some (some (.ref f_Store_write))) (if_Store_write : PySem.W.isFn K (.ref f_Store_write) = true) (l_Store_write : K.lookup f_Store_write = some ⟨oc_Store_write, od_Store_write, .func (PySem.W.fnOf "write" "Store.write" (defArgs s_Store_write) (defBody s_Store_write) (defScope s_Store_write) .none kV_Store_write dc_Store_write pm_Store_write an_Store_write cd_Store_write ct_Store_write), sl_Store_write⟩) (c_Store_write : PySem.W.codeIn K cd_Store_write "Store.write" = true) (k_Store_write : PySem.W.keepIn K (.ref f_Store_write) = true)
    {f_Store_flush : Addr} {od_Store_flush an_Store_flush : Option Addr} {sl_Store_flush : Array (Option Value)} {oc_Store_flush kV_Store_flush dc_Store_flush pm_Store_flush cd_Store_flush ct_Store_flush : Value}
    {T_Store_flush : Addr} {oT_Store_flush : Value} {dT_Store_flush : Option Addr} {nT_Store_flush : Nat} {sT_Store_flush : Array (Option Value)} (dl_Store_flush : K.lookup T_Store_flush = some ⟨oT_Store_flush, dT_Store_flush, .seq #[.none] nT_Store_flush, sT_Store_flush⟩)
    (a_Store_flush : PySem.W.findIn K (.ref C_Store) "flush" = some (some (.ref f_Store_flush))) (if_Store_flush : PySem.W.isFn K (.ref f_Store_flush) = true) (l_Store_flush : K.lookup f_Store_flush = some ⟨oc_Store_flush, od_Store_flush, .func (PySem.W.fnOf "flush" "Store.flush" (defArgs s_Store_flush) (defBody s_Store_flush) (defScope s_Store_flush) (.ref T_Store_flush) kV_Store_flush dc_Store_flush pm_Store_flush an_Store_flush cd_Store_flush ct_Store_flush), sl_Store_flush⟩) (c_Store_flush : PySem.W.codeIn K cd_Store_flush "Store.flush" = true) (k_Store_flush : PySem.W.keepIn K (.ref f_Store_flush) = true)
    {f_Store_check_merge : Addr} {od_Store_check_merge an_Store_check_merge : Option Addr} {sl_Store_check_merge : Array (Option Value)} {oc_Store_check_merge kV_Store_check_merge dc_Store_check_merge pm_Store_check_merge cd_Store_check_merge ct_Store_check_merge : Value}
    (a_Store_check_merge : PySem.W.findIn K (.ref C_Store) "check_merge" = some (some (.ref f_Store_check_merge))) (if_Store_check_merge : PySem.W.isFn K (.ref f_Store_check_merge) = true) (l_Store_check_merge : K.lookup f_Store_check_merge = some ⟨oc_Store_check_merge, od_Store_check_merge, .func (PySem.W.fnOf "check_merge" "Store.check_merge" (defArgs s_Store_check_merge) (defBody s_Store_check_merge) (defScope s_Store_check_merge) .none kV_Store_check_merge dc_Store_check_merge pm_Store_check_merge an_Store_check_merge cd_Store_check_merge ct_Store_check_merge), sl_Store_check_merge⟩) (c_Store_check_merge : PySem.W.codeIn K cd_Store_check_merge "Store.check_merge" = true) (k_Store_check_merge : PySem.W.keepIn K (.ref f_Store_check_merge) = true)
    {f_Store_chosen_merge : Addr} {od_Store_chosen_merge an_Store_chosen_merge : Option Addr} {sl_Store_chosen_merge : Array (Option Value)} {oc_Store_chosen_merge kV_Store_chosen_merge dc_Store_chosen_merge pm_Store_chosen_merge cd_Store_chosen_merge ct_Store_chosen_merge : Value}
    (a_Store_chosen_merge : PySem.W.findIn K (.ref C_Store) "chosen_merge" = some (some (.ref f_Store_chosen_merge))) (if_Store_chosen_merge : PySem.W.isFn K (.ref f_Store_chosen_merge) = true) (l_Store_chosen_merge : K.lookup f_Store_chosen_merge = some ⟨oc_Store_chosen_merge, od_Store_chosen_merge, .func (PySem.W.fnOf "chosen_merge" "Store.chosen_merge" (defArgs s_Store_chosen_merge) (defBody s_Store_chosen_merge) (defScope s_Store_chosen_merge) .none kV_Store_chosen_merge dc_Store_chosen_merge pm_Store_chosen_merge an_Store_chosen_merge cd_Store_chosen_merge ct_Store_chosen_merge), sl_Store_chosen_merge⟩) (c_Store_chosen_merge : PySem.W.codeIn K cd_Store_chosen_merge "Store.chosen_merge" = true) (k_Store_chosen_merge : PySem.W.keepIn K (.ref f_Store_chosen_merge) = true)
    {f_Store_read : Addr} {od_Store_read an_Store_read : Option Addr} {sl_Store_read : Array (Option Value)} {oc_Store_read dc_Store_read pm_Store_read cd_Store_read ct_Store_read : Value}
    {D_Store_read : Addr}
    (kq_Store_read_moment : PySem.W.nsIn K D_Store_read "moment" = some (some .none))
    (a_Store_read : PySem.W.findIn K (.ref C_Store) "read" = some (some (.ref f_Store_read))) (if_Store_read : PySem.W.isFn K (.ref f_Store_read) = true) (l_Store_read : K.lookup f_Store_read = some ⟨oc_Store_read, od_Store_read, .func (PySem.W.fnOf "read" "Store.read" (defArgs s_Store_read) (defBody s_Store_read) (defScope s_Store_read) .none (.ref D_Store_read) dc_Store_read pm_Store_read an_Store_read cd_Store_read ct_Store_read), sl_Store_read⟩) (c_Store_read : PySem.W.codeIn K cd_Store_read "Store.read" = true) (k_Store_read : PySem.W.keepIn K (.ref f_Store_read) = true)
    {f_Store_flushes_until : Addr} {od_Store_flushes_until an_Store_flushes_until : Option Addr} {sl_Store_flushes_until : Array (Option Value)} {oc_Store_flushes_until kV_Store_flushes_until dc_Store_flushes_until pm_Store_flushes_until cd_Store_flushes_until ct_Store_flushes_until : Value}
    (a_Store_flushes_until : PySem.W.findIn K (.ref C_Store) "flushes_until" = some (some (.ref f_Store_flushes_until))) (if_Store_flushes_until : PySem.W.isFn K (.ref f_Store_flushes_until) = true) (l_Store_flushes_until : K.lookup f_Store_flushes_until = some ⟨oc_Store_flushes_until, od_Store_flushes_until, .func (PySem.W.fnOf "flushes_until" "Store.flushes_until" (defArgs s_Store_flushes_until) (defBody s_Store_flushes_until) (defScope s_Store_flushes_until) .none kV_Store_flushes_until dc_Store_flushes_until pm_Store_flushes_until an_Store_flushes_until cd_Store_flushes_until ct_Store_flushes_until), sl_Store_flushes_until⟩) (c_Store_flushes_until : PySem.W.codeIn K cd_Store_flushes_until "Store.flushes_until" = true) (k_Store_flushes_until : PySem.W.keepIn K (.ref f_Store_flushes_until) = true)
    {f_Store_check_moment : Addr} {od_Store_check_moment an_Store_check_moment : Option Addr} {sl_Store_check_moment : Array (Option Value)} {oc_Store_check_moment kV_Store_check_moment dc_Store_check_moment pm_Store_check_moment cd_Store_check_moment ct_Store_check_moment : Value}
    (a_Store_check_moment : PySem.W.findIn K (.ref C_Store) "check_moment" = some (some (.ref f_Store_check_moment))) (if_Store_check_moment : PySem.W.isFn K (.ref f_Store_check_moment) = true) (l_Store_check_moment : K.lookup f_Store_check_moment = some ⟨oc_Store_check_moment, od_Store_check_moment, .func (PySem.W.fnOf "check_moment" "Store.check_moment" (defArgs s_Store_check_moment) (defBody s_Store_check_moment) (defScope s_Store_check_moment) .none kV_Store_check_moment dc_Store_check_moment pm_Store_check_moment an_Store_check_moment cd_Store_check_moment ct_Store_check_moment), sl_Store_check_moment⟩) (c_Store_check_moment : PySem.W.codeIn K cd_Store_check_moment "Store.check_moment" = true) (k_Store_check_moment : PySem.W.keepIn K (.ref f_Store_check_moment) = true)
    {f_Store_visited : Addr} {od_Store_visited an_Store_visited : Option Addr} {sl_Store_visited : Array (Option Value)} {oc_Store_visited kV_Store_visited dc_Store_visited pm_Store_visited cd_Store_visited ct_Store_visited : Value}
    (a_Store_visited : PySem.W.findIn K (.ref C_Store) "visited" = some (some (.ref f_Store_visited))) (if_Store_visited : PySem.W.isFn K (.ref f_Store_visited) = true) (l_Store_visited : K.lookup f_Store_visited = some ⟨oc_Store_visited, od_Store_visited, .func (PySem.W.fnOf "visited" "Store.visited" (defArgs s_Store_visited) (defBody s_Store_visited) (defScope s_Store_visited) .none kV_Store_visited dc_Store_visited pm_Store_visited an_Store_visited cd_Store_visited ct_Store_visited), sl_Store_visited⟩) (c_Store_visited : PySem.W.codeIn K cd_Store_visited "Store.visited" = true) (k_Store_visited : PySem.W.keepIn K (.ref f_Store_visited) = true)
    {f_Store_stack : Addr} {od_Store_stack an_Store_stack : Option Addr} {sl_Store_stack : Array (Option Value)} {oc_Store_stack kV_Store_stack dc_Store_stack pm_Store_stack cd_Store_stack ct_Store_stack : Value}
    (a_Store_stack : PySem.W.findIn K (.ref C_Store) "stack" = some (some (.ref f_Store_stack))) (if_Store_stack : PySem.W.isFn K (.ref f_Store_stack) = true) (l_Store_stack : K.lookup f_Store_stack = some ⟨oc_Store_stack, od_Store_stack, .func (PySem.W.fnOf "stack" "Store.stack" (defArgs s_Store_stack) (defBody s_Store_stack) (defScope s_Store_stack) .none kV_Store_stack dc_Store_stack pm_Store_stack an_Store_stack cd_Store_stack ct_Store_stack), sl_Store_stack⟩) (c_Store_stack : PySem.W.codeIn K cd_Store_stack "Store.stack" = true) (k_Store_stack : PySem.W.keepIn K (.ref f_Store_stack) = true)
    {f_Store_schedule : Addr} {od_Store_schedule an_Store_schedule : Option Addr} {sl_Store_schedule : Array (Option Value)} {oc_Store_schedule kV_Store_schedule dc_Store_schedule pm_Store_schedule cd_Store_schedule ct_Store_schedule : Value}
    (a_Store_schedule : PySem.W.findIn K (.ref C_Store) "schedule" = some (some (.ref f_Store_schedule))) (if_Store_schedule : PySem.W.isFn K (.ref f_Store_schedule) = true) (l_Store_schedule : K.lookup f_Store_schedule = some ⟨oc_Store_schedule, od_Store_schedule, .func (PySem.W.fnOf "schedule" "Store.schedule" (defArgs s_Store_schedule) (defBody s_Store_schedule) (defScope s_Store_schedule) .none kV_Store_schedule dc_Store_schedule pm_Store_schedule an_Store_schedule cd_Store_schedule ct_Store_schedule), sl_Store_schedule⟩) (c_Store_schedule : PySem.W.codeIn K cd_Store_schedule "Store.schedule" = true) (k_Store_schedule : PySem.W.keepIn K (.ref f_Store_schedule) = true)
    {f_Store_sizes : Addr} {od_Store_sizes an_Store_sizes : Option Addr} {sl_Store_sizes : Array (Option Value)} {oc_Store_sizes kV_Store_sizes dc_Store_sizes pm_Store_sizes cd_Store_sizes ct_Store_sizes : Value}
    (a_Store_sizes : PySem.W.findIn K (.ref C_Store) "sizes" = some (some (.ref f_Store_sizes))) (if_Store_sizes : PySem.W.isFn K (.ref f_Store_sizes) = true) (l_Store_sizes : K.lookup f_Store_sizes = some ⟨oc_Store_sizes, od_Store_sizes, .func (PySem.W.fnOf "sizes" "Store.sizes" (defArgs s_Store_sizes) (defBody s_Store_sizes) (defScope s_Store_sizes) .none kV_Store_sizes dc_Store_sizes pm_Store_sizes an_Store_sizes cd_Store_sizes ct_Store_sizes), sl_Store_sizes⟩) (c_Store_sizes : PySem.W.codeIn K cd_Store_sizes "Store.sizes" = true) (k_Store_sizes : PySem.W.keepIn K (.ref f_Store_sizes) = true)
    {f_Store_written : Addr} {od_Store_written an_Store_written : Option Addr} {sl_Store_written : Array (Option Value)} {oc_Store_written kV_Store_written dc_Store_written pm_Store_written cd_Store_written ct_Store_written : Value}
    (a_Store_written : PySem.W.findIn K (.ref C_Store) "written" = some (some (.ref f_Store_written))) (if_Store_written : PySem.W.isFn K (.ref f_Store_written) = true) (l_Store_written : K.lookup f_Store_written = some ⟨oc_Store_written, od_Store_written, .func (PySem.W.fnOf "written" "Store.written" (defArgs s_Store_written) (defBody s_Store_written) (defScope s_Store_written) .none kV_Store_written dc_Store_written pm_Store_written an_Store_written cd_Store_written ct_Store_written), sl_Store_written⟩) (c_Store_written : PySem.W.codeIn K cd_Store_written "Store.written" = true) (k_Store_written : PySem.W.keepIn K (.ref f_Store_written) = true)
    {f_L_start_draws : Addr} {od_L_start_draws an_L_start_draws : Option Addr} {sl_L_start_draws : Array (Option Value)} {oc_L_start_draws kV_L_start_draws dc_L_start_draws pm_L_start_draws cd_L_start_draws ct_L_start_draws : Value}
    (a_L_start_draws : PySem.W.nsIn K mainGlobals "_law_start_draws" = some (some (.ref f_L_start_draws))) (l_L_start_draws : K.lookup f_L_start_draws = some ⟨oc_L_start_draws, od_L_start_draws, .func (PySem.W.fnOf "_law_start_draws" "_law_start_draws" (defArgs s_L_start_draws) (defBody s_L_start_draws) (defScope s_L_start_draws) .none kV_L_start_draws dc_L_start_draws pm_L_start_draws an_L_start_draws cd_L_start_draws ct_L_start_draws), sl_L_start_draws⟩) (c_L_start_draws : PySem.W.codeIn K cd_L_start_draws "_law_start_draws" = true) (k_L_start_draws : PySem.W.keepIn K (.ref f_L_start_draws) = true)
    {f_L_next : Addr} {od_L_next an_L_next : Option Addr} {sl_L_next : Array (Option Value)} {oc_L_next kV_L_next dc_L_next pm_L_next cd_L_next ct_L_next : Value}
    (a_L_next : PySem.W.nsIn K mainGlobals "_law_next" = some (some (.ref f_L_next))) (l_L_next : K.lookup f_L_next = some ⟨oc_L_next, od_L_next, .func (PySem.W.fnOf "_law_next" "_law_next" (defArgs s_L_next) (defBody s_L_next) (defScope s_L_next) .none kV_L_next dc_L_next pm_L_next an_L_next cd_L_next ct_L_next), sl_L_next⟩) (c_L_next : PySem.W.codeIn K cd_L_next "_law_next" = true) (k_L_next : PySem.W.keepIn K (.ref f_L_next) = true)
    {f_L_pick : Addr} {od_L_pick an_L_pick : Option Addr} {sl_L_pick : Array (Option Value)} {oc_L_pick kV_L_pick dc_L_pick pm_L_pick cd_L_pick ct_L_pick : Value}
    (a_L_pick : PySem.W.nsIn K mainGlobals "_law_pick" = some (some (.ref f_L_pick))) (l_L_pick : K.lookup f_L_pick = some ⟨oc_L_pick, od_L_pick, .func (PySem.W.fnOf "_law_pick" "_law_pick" (defArgs s_L_pick) (defBody s_L_pick) (defScope s_L_pick) .none kV_L_pick dc_L_pick pm_L_pick an_L_pick cd_L_pick ct_L_pick), sl_L_pick⟩) (c_L_pick : PySem.W.codeIn K cd_L_pick "_law_pick" = true) (k_L_pick : PySem.W.keepIn K (.ref f_L_pick) = true)
    {f_L_sized : Addr} {od_L_sized an_L_sized : Option Addr} {sl_L_sized : Array (Option Value)} {oc_L_sized kV_L_sized dc_L_sized pm_L_sized cd_L_sized ct_L_sized : Value}
    (a_L_sized : PySem.W.nsIn K mainGlobals "_law_sized" = some (some (.ref f_L_sized))) (l_L_sized : K.lookup f_L_sized = some ⟨oc_L_sized, od_L_sized, .func (PySem.W.fnOf "_law_sized" "_law_sized" (defArgs s_L_sized) (defBody s_L_sized) (defScope s_L_sized) .none kV_L_sized dc_L_sized pm_L_sized an_L_sized cd_L_sized ct_L_sized), sl_L_sized⟩) (c_L_sized : PySem.W.codeIn K cd_L_sized "_law_sized" = true) (k_L_sized : PySem.W.keepIn K (.ref f_L_sized) = true)
    {f_L_both_works : Addr} {od_L_both_works an_L_both_works : Option Addr} {sl_L_both_works : Array (Option Value)} {oc_L_both_works kV_L_both_works dc_L_both_works pm_L_both_works cd_L_both_works ct_L_both_works : Value}
    (a_L_both_works : PySem.W.nsIn K mainGlobals "_law_both_works" = some (some (.ref f_L_both_works))) (l_L_both_works : K.lookup f_L_both_works = some ⟨oc_L_both_works, od_L_both_works, .func (PySem.W.fnOf "_law_both_works" "_law_both_works" (defArgs s_L_both_works) (defBody s_L_both_works) (defScope s_L_both_works) .none kV_L_both_works dc_L_both_works pm_L_both_works an_L_both_works cd_L_both_works ct_L_both_works), sl_L_both_works⟩) (c_L_both_works : PySem.W.codeIn K cd_L_both_works "_law_both_works" = true) (k_L_both_works : PySem.W.keepIn K (.ref f_L_both_works) = true)
    {f_L_some_folds : Addr} {od_L_some_folds an_L_some_folds : Option Addr} {sl_L_some_folds : Array (Option Value)} {oc_L_some_folds kV_L_some_folds dc_L_some_folds pm_L_some_folds cd_L_some_folds ct_L_some_folds : Value}
    (a_L_some_folds : PySem.W.nsIn K mainGlobals "_law_some_folds" = some (some (.ref f_L_some_folds))) (l_L_some_folds : K.lookup f_L_some_folds = some ⟨oc_L_some_folds, od_L_some_folds, .func (PySem.W.fnOf "_law_some_folds" "_law_some_folds" (defArgs s_L_some_folds) (defBody s_L_some_folds) (defScope s_L_some_folds) .none kV_L_some_folds dc_L_some_folds pm_L_some_folds an_L_some_folds cd_L_some_folds ct_L_some_folds), sl_L_some_folds⟩) (c_L_some_folds : PySem.W.codeIn K cd_L_some_folds "_law_some_folds" = true) (k_L_some_folds : PySem.W.keepIn K (.ref f_L_some_folds) = true)
    {f_L_right : Addr} {od_L_right an_L_right : Option Addr} {sl_L_right : Array (Option Value)} {oc_L_right kV_L_right dc_L_right pm_L_right cd_L_right ct_L_right : Value}
    (a_L_right : PySem.W.nsIn K mainGlobals "_law_right" = some (some (.ref f_L_right))) (l_L_right : K.lookup f_L_right = some ⟨oc_L_right, od_L_right, .func (PySem.W.fnOf "_law_right" "_law_right" (defArgs s_L_right) (defBody s_L_right) (defScope s_L_right) .none kV_L_right dc_L_right pm_L_right an_L_right cd_L_right ct_L_right), sl_L_right⟩) (c_L_right : PySem.W.codeIn K cd_L_right "_law_right" = true) (k_L_right : PySem.W.keepIn K (.ref f_L_right) = true)
    {f_law : Addr} {od_law an_law : Option Addr} {sl_law : Array (Option Value)} {oc_law kV_law dc_law pm_law cd_law ct_law : Value}
    (a_law : PySem.W.nsIn K mainGlobals "law" = some (some (.ref f_law))) (l_law : K.lookup f_law = some ⟨oc_law, od_law, .func (PySem.W.fnOf "law" "law" (defArgs s_law) (defBody s_law) (defScope s_law) .none kV_law dc_law pm_law an_law cd_law ct_law), sl_law⟩) (c_law : PySem.W.codeIn K cd_law "law" = true) (k_law : PySem.W.keepIn K (.ref f_law) = true)
    (z_isinstance : PySem.W.nsIn K mainGlobals "isinstance" = some none)
    (z_int : PySem.W.nsIn K mainGlobals "int" = some none)
    (z_bool : PySem.W.nsIn K mainGlobals "bool" = some none)
    (z_all : PySem.W.nsIn K mainGlobals "all" = some none)
    (z_tuple : PySem.W.nsIn K mainGlobals "tuple" = some none)
    (z_len : PySem.W.nsIn K mainGlobals "len" = some none)
    (z_enumerate : PySem.W.nsIn K mainGlobals "enumerate" = some none)
    (z_range : PySem.W.nsIn K mainGlobals "range" = some none)
    (z_max : PySem.W.nsIn K mainGlobals "max" = some none)
    (z_reversed : PySem.W.nsIn K mainGlobals "reversed" = some none)
    (z_sum : PySem.W.nsIn K mainGlobals "sum" = some none)
    (z_zip : PySem.W.nsIn K mainGlobals "zip" = some none)
    (z_str : PySem.W.nsIn K mainGlobals "str" = some none)
    (z_min : PySem.W.nsIn K mainGlobals "min" = some none)
    (z_abs : PySem.W.nsIn K mainGlobals "abs" = some none)
    (z_list : PySem.W.nsIn K mainGlobals "list" = some none)
    {t_MOST_BUDGET : Tok} (y_MOST_BUDGET : PySem.W.nsIn K mainGlobals "MOST_BUDGET" = some (some (.int (60) t_MOST_BUDGET)))
    {t_MOST_LOAD : Tok} (y_MOST_LOAD : PySem.W.nsIn K mainGlobals "MOST_LOAD" = some (some (.int (1000000000) t_MOST_LOAD)))
    {t_MOST_FLUSHES : Tok} (y_MOST_FLUSHES : PySem.W.nsIn K mainGlobals "MOST_FLUSHES" = some (some (.int (60) t_MOST_FLUSHES)))
    {t_NO_PARENT : Tok} (y_NO_PARENT : PySem.W.nsIn K mainGlobals "NO_PARENT" = some (some (.int (-1) t_NO_PARENT)))
    {t_MOST_POSITION : Tok} (y_MOST_POSITION : PySem.W.nsIn K mainGlobals "MOST_POSITION" = some (some (.int (1000000000000000000) t_MOST_POSITION)))
    {t_MOST_LETTERS : Tok} (y_MOST_LETTERS : PySem.W.nsIn K mainGlobals "MOST_LETTERS" = some (some (.int (8) t_MOST_LETTERS)))
    : ∃ fd : FuncData, (∀ (s : Shared) (v : Value), BindsTo s fd ⟨[v], []⟩ [("_law_script", v)]) ∧ ∀ base : Heap, K.In base → base.Ns mainGlobals mg → FnOk l.prog w K mg base CX0 13 fa fd ["_law_script"] (sp_law K) := by
  have e := hfa.symm.trans (PySem.W.mg_of X G a_law)
  cases e
  have F_is_int := fun_mk (st := s_is_int) l_is_int c_is_int k_is_int
  have B_is_int := F_is_int.binds (ps := ["value"]) fun _ _ _ _ _ _ us hl => match us, hl with | [_], _ => rfl
  have F_is_count := fun_mk (st := s_is_count) l_is_count c_is_count k_is_count
  have B_is_count := F_is_count.binds (ps := ["value"]) fun _ _ _ _ _ _ us hl => match us, hl with | [_], _ => rfl
  have F_is_count_up_to := fun_mk (st := s_is_count_up_to) l_is_count_up_to c_is_count_up_to k_is_count_up_to
  have B_is_count_up_to := F_is_count_up_to.binds (ps := ["value", "most"]) fun _ _ _ _ _ _ us hl => match us, hl with | [_, _], _ => rfl
  have F_are_loads := fun_mk (st := s_are_loads) l_are_loads c_are_loads k_are_loads
  have B_are_loads := F_are_loads.binds (ps := ["value", "fewest", "most"]) fun _ _ _ _ _ _ us hl => match us, hl with | [_, _, _], _ => rfl
  have F_check_sizes := fun_mk (st := s_check_sizes) l_check_sizes c_check_sizes k_check_sizes
  have B_check_sizes := F_check_sizes.binds (ps := ["sizes", "fewest", "most"]) fun _ _ _ _ _ _ us hl => match us, hl with | [_, _, _], _ => rfl
  have F_is_schedule := fun_mk (st := s_is_schedule) l_is_schedule c_is_schedule k_is_schedule
  have B_is_schedule := F_is_schedule.binds (ps := ["value"]) fun _ _ _ _ _ _ us hl => match us, hl with | [_], _ => rfl
  have F_stacks := fun_mk (st := s_stacks) l_stacks c_stacks k_stacks
  have B_stacks := F_stacks.binds (ps := ["schedule"]) fun _ _ _ _ _ _ us hl => match us, hl with | [_], _ => rfl
  have F_stack_after := fun_mk (st := s_stack_after) l_stack_after c_stack_after k_stack_after
  have B_stack_after := F_stack_after.binds (ps := ["stack", "flush", "merge"]) fun _ _ _ _ _ _ us hl => match us, hl with | [_, _, _], _ => rfl
  have F_writes := fun_mk (st := s_writes) l_writes c_writes k_writes
  have B_writes := F_writes.binds (ps := ["schedule"]) fun _ _ _ _ _ _ us hl => match us, hl with | [_], _ => rfl
  have F_run_counts := fun_mk (st := s_run_counts) l_run_counts c_run_counts k_run_counts
  have B_run_counts := F_run_counts.binds (ps := ["schedule"]) fun _ _ _ _ _ _ us hl => match us, hl with | [_], _ => rfl
  have F_is_tree := fun_mk (st := s_is_tree) l_is_tree c_is_tree k_is_tree
  have B_is_tree := F_is_tree.binds (ps := ["value"]) fun _ _ _ _ _ _ us hl => match us, hl with | [_], _ => rfl
  have F_is_numbered_in_order := fun_mk (st := s_is_numbered_in_order) l_is_numbered_in_order c_is_numbered_in_order k_is_numbered_in_order
  have B_is_numbered_in_order := F_is_numbered_in_order.binds (ps := ["parents"]) fun _ _ _ _ _ _ us hl => match us, hl with | [_], _ => rfl
  have F_tree_of := fun_mk (st := s_tree_of) l_tree_of c_tree_of k_tree_of
  have B_tree_of := F_tree_of.binds (ps := ["schedule"]) fun _ _ _ _ _ _ us hl => match us, hl with | [_], _ => rfl
  have F_schedule_of := fun_mk (st := s_schedule_of) l_schedule_of c_schedule_of k_schedule_of
  have B_schedule_of := F_schedule_of.binds (ps := ["tree"]) fun _ _ _ _ _ _ us hl => match us, hl with | [_], _ => rfl
  have F_edges := fun_mk (st := s_edges) l_edges c_edges k_edges
  have B_edges := F_edges.binds (ps := ["tree"]) fun _ _ _ _ _ _ us hl => match us, hl with | [_], _ => rfl
  have F_edges_above := fun_mk (st := s_edges_above) l_edges_above c_edges_above k_edges_above
  have B_edges_above := F_edges_above.binds (ps := ["tree", "node"]) fun _ _ _ _ _ _ us hl => match us, hl with | [_, _], _ => rfl
  have F_mirror := fun_mk (st := s_mirror) l_mirror c_mirror k_mirror
  have B_mirror := F_mirror.binds (ps := ["schedule"]) fun _ _ _ _ _ _ us hl => match us, hl with | [_], _ => rfl
  have F_mirrored_node := fun_mk (st := s_mirrored_node) l_mirrored_node c_mirrored_node k_mirrored_node
  have B_mirrored_node := F_mirrored_node.binds (ps := ["node", "last"]) fun _ _ _ _ _ _ us hl => match us, hl with | [_, _], _ => rfl
  have F_write_work := fun_mk (st := s_write_work) l_write_work c_write_work k_write_work
  have B_write_work := F_write_work.binds (ps := ["schedule", "sizes"]) fun _ _ _ _ _ _ us hl => match us, hl with | [_, _], _ => rfl
  have F_weighted := fun_mk (st := s_weighted) l_weighted c_weighted k_weighted
  have B_weighted := F_weighted.binds (ps := ["loads", "counts"]) fun _ _ _ _ _ _ us hl => match us, hl with | [_, _], _ => rfl
  have F_is_key := fun_mk (st := s_is_key) l_is_key c_is_key k_is_key
  have B_is_key := F_is_key.binds (ps := ["value"]) fun _ _ _ _ _ _ us hl => match us, hl with | [_], _ => rfl
  have F_check_key := fun_mk (st := s_check_key) l_check_key c_check_key k_check_key
  have B_check_key := F_check_key.binds (ps := ["key"]) fun _ _ _ _ _ _ us hl => match us, hl with | [_], _ => rfl
  have F_is_policy := fun_mk (st := s_is_policy) l_is_policy c_is_policy k_is_policy
  have B_is_policy := F_is_policy.binds (ps := ["value"]) fun _ _ _ _ _ _ us hl => match us, hl with | [_], _ => rfl
  have F_Store___init__ := fun_mk (st := s_Store___init__) l_Store___init__ c_Store___init__ k_Store___init__
  have B_Store___init__ := F_Store___init__.binds (ps := ["self", "policy"]) fun _ _ _ _ _ _ us hl => match us, hl with | [_, _], _ => rfl
  have F_Store_put := fun_mk (st := s_Store_put) l_Store_put c_Store_put k_Store_put
  have B_Store_put := F_Store_put.binds (ps := ["self", "key", "value"]) fun _ _ _ _ _ _ us hl => match us, hl with | [_, _, _], _ => rfl
  have F_Store_write := fun_mk (st := s_Store_write) l_Store_write c_Store_write k_Store_write
  have B_Store_write := F_Store_write.binds (ps := ["self", "key", "value"]) fun _ _ _ _ _ _ us hl => match us, hl with | [_, _, _], _ => rfl
  have F_Store_flush : FunD K "flush" "Store.flush" (defArgs s_Store_flush) (defBody s_Store_flush) (defScope s_Store_flush) [.non] [] f_Store_flush _ := ⟨⟨_, _, _, _, _, _, _, _, _, _, rfl, l_Store_flush, c_Store_flush, .inr ⟨by simp, _, _, [.none], _, rfl, dl_Store_flush, rfl, .cons rfl (.nil)⟩, .inl rfl⟩, k_Store_flush⟩
  obtain ⟨D_Store_flush, V_Store_flush, B_Store_flush⟩ := F_Store_flush.binds1 (ps := ["self", "merge"]) 1 0 (by simp) rfl fun _ _ _ _ _ _ _ us its hl h2 => match us, hl, its, h2 with | [_], _, [_], _ => ⟨_, rfl, rfl⟩
  have KB_Store_flush_merge : KBn K _ ["self", "merge"] 1 ["merge"] gA gA := kbA F_Store_flush 1 (by simp) fun _ _ _ _ _ _ _ us its ws hl h2 h3 => match us, hl, its, h2, ws, h3 with | [_], _, [_], _, [_], _ => ⟨_, rfl, rfl⟩
  have F_Store_check_merge := fun_mk (st := s_Store_check_merge) l_Store_check_merge c_Store_check_merge k_Store_check_merge
  have B_Store_check_merge := F_Store_check_merge.binds (ps := ["self", "merge"]) fun _ _ _ _ _ _ us hl => match us, hl with | [_, _], _ => rfl
  have F_Store_chosen_merge := fun_mk (st := s_Store_chosen_merge) l_Store_chosen_merge c_Store_chosen_merge k_Store_chosen_merge
  have B_Store_chosen_merge := F_Store_chosen_merge.binds (ps := ["self", "merge"]) fun _ _ _ _ _ _ us hl => match us, hl with | [_, _], _ => rfl
  have F_Store_read : FunD K "read" "Store.read" (defArgs s_Store_read) (defBody s_Store_read) (defScope s_Store_read) [] [("moment", .non)] f_Store_read _ := ⟨⟨_, _, _, _, _, _, _, _, _, _, rfl, l_Store_read, c_Store_read, .inl ⟨rfl, rfl⟩, .inr ⟨_, rfl, by simp only [List.forall_mem_cons, List.not_mem_nil, false_implies, implies_true, and_true]; exact ⟨_, kq_Store_read_moment, rfl⟩⟩⟩, k_Store_read⟩
  obtain ⟨D_Store_read, V_Store_read, B_Store_read⟩ := F_Store_read.binds0 (ps := ["self", "key", "moment"]) 2 (by simp) rfl fun _ _ _ _ _ _ us ks hl h2 => match us, hl, ks, h2 with | [_, _], _, [_], _ => ⟨_, _, _, _, _, _, rfl, rfl, rfl⟩
  have F_Store_flushes_until := fun_mk (st := s_Store_flushes_until) l_Store_flushes_until c_Store_flushes_until k_Store_flushes_until
  have B_Store_flushes_until := F_Store_flushes_until.binds (ps := ["self", "moment"]) fun _ _ _ _ _ _ us hl => match us, hl with | [_, _], _ => rfl
  have F_Store_check_moment := fun_mk (st := s_Store_check_moment) l_Store_check_moment c_Store_check_moment k_Store_check_moment
  have B_Store_check_moment := F_Store_check_moment.binds (ps := ["self", "moment"]) fun _ _ _ _ _ _ us hl => match us, hl with | [_, _], _ => rfl
  have F_Store_visited := fun_mk (st := s_Store_visited) l_Store_visited c_Store_visited k_Store_visited
  have B_Store_visited := F_Store_visited.binds (ps := ["self"]) fun _ _ _ _ _ _ us hl => match us, hl with | [_], _ => rfl
  have F_Store_stack := fun_mk (st := s_Store_stack) l_Store_stack c_Store_stack k_Store_stack
  have B_Store_stack := F_Store_stack.binds (ps := ["self"]) fun _ _ _ _ _ _ us hl => match us, hl with | [_], _ => rfl
  have F_Store_schedule := fun_mk (st := s_Store_schedule) l_Store_schedule c_Store_schedule k_Store_schedule
  have B_Store_schedule := F_Store_schedule.binds (ps := ["self"]) fun _ _ _ _ _ _ us hl => match us, hl with | [_], _ => rfl
  have F_Store_sizes := fun_mk (st := s_Store_sizes) l_Store_sizes c_Store_sizes k_Store_sizes
  have B_Store_sizes := F_Store_sizes.binds (ps := ["self"]) fun _ _ _ _ _ _ us hl => match us, hl with | [_], _ => rfl
  have F_Store_written := fun_mk (st := s_Store_written) l_Store_written c_Store_written k_Store_written
  have B_Store_written := F_Store_written.binds (ps := ["self"]) fun _ _ _ _ _ _ us hl => match us, hl with | [_], _ => rfl
  have F_L_start_draws := fun_mk (st := s_L_start_draws) l_L_start_draws c_L_start_draws k_L_start_draws
  have B_L_start_draws := F_L_start_draws.binds (ps := ["_law_script", "_law_nth"]) fun _ _ _ _ _ _ us hl => match us, hl with | [_, _], _ => rfl
  have F_L_next := fun_mk (st := s_L_next) l_L_next c_L_next k_L_next
  have B_L_next := F_L_next.binds (ps := ["_law_deal", "_law_upto"]) fun _ _ _ _ _ _ us hl => match us, hl with | [_, _], _ => rfl
  have F_L_pick := fun_mk (st := s_L_pick) l_L_pick c_L_pick k_L_pick
  have B_L_pick := F_L_pick.binds (ps := ["_law_deal", "_law_some"]) fun _ _ _ _ _ _ us hl => match us, hl with | [_, _], _ => rfl
  have F_L_sized := fun_mk (st := s_L_sized) l_L_sized c_L_sized k_L_sized
  have B_L_sized := F_L_sized.binds (ps := ["_law_store", "_law_size", "_law_fold"]) fun _ _ _ _ _ _ us hl => match us, hl with | [_, _, _], _ => rfl
  have F_L_both_works := fun_mk (st := s_L_both_works) l_L_both_works c_L_both_works k_L_both_works
  have B_L_both_works := F_L_both_works.binds (ps := ["_law_plan", "_law_sizes_of", "_law_reads_of"]) fun _ _ _ _ _ _ us hl => match us, hl with | [_, _, _], _ => rfl
  have F_L_some_folds := fun_mk (st := s_L_some_folds) l_L_some_folds c_L_some_folds k_L_some_folds
  have B_L_some_folds := F_L_some_folds.binds (ps := ["_law_deal", "_law_size"]) fun _ _ _ _ _ _ us hl => match us, hl with | [_, _], _ => rfl
  have F_L_right := fun_mk (st := s_L_right) l_L_right c_L_right k_L_right
  have B_L_right := F_L_right.binds (ps := ["_law_deal"]) fun _ _ _ _ _ _ us hl => match us, hl with | [_], _ => rfl
  have F_law := fun_mk (st := s_law) l_law c_law k_law
  have B_law := F_law.binds (ps := ["_law_script"]) fun _ _ _ _ _ _ us hl => match us, hl with | [_], _ => rfl
  let TX : Tx K mg := ⟨_, PySem.W.mg_of X G ac_Store, ⟨pg_Store, hd_Store, po_Store, sa_Store⟩, _, _, F_is_int, PySem.W.mg_of X G a_is_int, B_is_int, _, _, F_is_count, PySem.W.mg_of X G a_is_count, B_is_count, _, _, F_is_count_up_to, PySem.W.mg_of X G a_is_count_up_to, B_is_count_up_to, _, _, F_are_loads, PySem.W.mg_of X G a_are_loads, B_are_loads, _, _, F_check_sizes, PySem.W.mg_of X G a_check_sizes, B_check_sizes, _, _, F_is_schedule, PySem.W.mg_of X G a_is_schedule, B_is_schedule, _, _, F_stacks, PySem.W.mg_of X G a_stacks, B_stacks, _, _, F_stack_after, PySem.W.mg_of X G a_stack_after, B_stack_after, _, _, F_writes, PySem.W.mg_of X G a_writes, B_writes, _, _, F_run_counts, PySem.W.mg_of X G a_run_counts, B_run_counts, _, _, F_is_tree, PySem.W.mg_of X G a_is_tree, B_is_tree, _, _, F_is_numbered_in_order, PySem.W.mg_of X G a_is_numbered_in_order, B_is_numbered_in_order, _, _, F_tree_of, PySem.W.mg_of X G a_tree_of, B_tree_of, _, _, F_schedule_of, PySem.W.mg_of X G a_schedule_of, B_schedule_of, _, _, F_edges, PySem.W.mg_of X G a_edges, B_edges, _, _, F_edges_above, PySem.W.mg_of X G a_edges_above, B_edges_above, _, _, F_mirror, PySem.W.mg_of X G a_mirror, B_mirror, _, _, F_mirrored_node, PySem.W.mg_of X G a_mirrored_node, B_mirrored_node, _, _, F_write_work, PySem.W.mg_of X G a_write_work, B_write_work, _, _, F_weighted, PySem.W.mg_of X G a_weighted, B_weighted, _, _, F_is_key, PySem.W.mg_of X G a_is_key, B_is_key, _, _, F_check_key, PySem.W.mg_of X G a_check_key, B_check_key, _, _, F_is_policy, PySem.W.mg_of X G a_is_policy, B_is_policy, _, _, F_Store___init__, B_Store___init__, ⟨mm_Store, a_Store___init__, if_Store___init__, kc_Store⟩, _, _, F_Store_put, B_Store_put, ⟨a_Store_put, if_Store_put, k_Store_put⟩, _, _, F_Store_write, B_Store_write, ⟨a_Store_write, if_Store_write, k_Store_write⟩, _, _, F_Store_flush, _, V_Store_flush, B_Store_flush, ⟨a_Store_flush, if_Store_flush, k_Store_flush⟩, KB_Store_flush_merge, _, _, F_Store_check_merge, B_Store_check_merge, ⟨a_Store_check_merge, if_Store_check_merge, k_Store_check_merge⟩, _, _, F_Store_chosen_merge, B_Store_chosen_merge, ⟨a_Store_chosen_merge, if_Store_chosen_merge, k_Store_chosen_merge⟩, _, _, F_Store_read, _, V_Store_read, B_Store_read, ⟨a_Store_read, if_Store_read, k_Store_read⟩, _, _, F_Store_flushes_until, B_Store_flushes_until, ⟨a_Store_flushes_until, if_Store_flushes_until, k_Store_flushes_until⟩, _, _, F_Store_check_moment, B_Store_check_moment, ⟨a_Store_check_moment, if_Store_check_moment, k_Store_check_moment⟩, _, _, F_Store_visited, B_Store_visited, ⟨a_Store_visited, if_Store_visited, k_Store_visited⟩, _, _, F_Store_stack, B_Store_stack, ⟨a_Store_stack, if_Store_stack, k_Store_stack⟩, _, _, F_Store_schedule, B_Store_schedule, ⟨a_Store_schedule, if_Store_schedule, k_Store_schedule⟩, _, _, F_Store_sizes, B_Store_sizes, ⟨a_Store_sizes, if_Store_sizes, k_Store_sizes⟩, _, _, F_Store_written, B_Store_written, ⟨a_Store_written, if_Store_written, k_Store_written⟩, _, _, F_L_start_draws, PySem.W.mg_of X G a_L_start_draws, B_L_start_draws, _, _, F_L_next, PySem.W.mg_of X G a_L_next, B_L_next, _, _, F_L_pick, PySem.W.mg_of X G a_L_pick, B_L_pick, _, _, F_L_sized, PySem.W.mg_of X G a_L_sized, B_L_sized, _, _, F_L_both_works, PySem.W.mg_of X G a_L_both_works, B_L_both_works, _, _, F_L_some_folds, PySem.W.mg_of X G a_L_some_folds, B_L_some_folds, _, _, F_L_right, PySem.W.mg_of X G a_L_right, B_L_right, _, _, F_law, PySem.W.mg_of X G a_law, B_law, na_Store_rule, na_Store_merges, na_Store_batches, na_Store_buffer, na_Store_history, na_Store_searched, w.params, _, PySem.W.mg_of X G ad_POLICIES, _, _, kl_POLICIES, ks_POLICIES, kn_POLICIES, ⟨_, ke_POLICIES_manual⟩, ⟨_, ke_POLICIES_runs⟩, ⟨_, ke_POLICIES_budget⟩, PySem.W.mg_none_of X G z_isinstance, PySem.W.mg_none_of X G z_int, PySem.W.mg_none_of X G z_bool, PySem.W.mg_none_of X G z_all, PySem.W.mg_none_of X G z_tuple, PySem.W.mg_none_of X G z_len, PySem.W.mg_none_of X G z_enumerate, PySem.W.mg_none_of X G z_range, PySem.W.mg_none_of X G z_max, PySem.W.mg_none_of X G z_reversed, PySem.W.mg_none_of X G z_sum, PySem.W.mg_none_of X G z_zip, PySem.W.mg_none_of X G z_str, PySem.W.mg_none_of X G z_min, PySem.W.mg_none_of X G z_abs, PySem.W.mg_none_of X G z_list, _, PySem.W.mg_of X G y_MOST_BUDGET, _, PySem.W.mg_of X G y_MOST_LOAD, _, PySem.W.mg_of X G y_MOST_FLUSHES, _, PySem.W.mg_of X G y_NO_PARENT, _, PySem.W.mg_of X G y_MOST_POSITION, _, PySem.W.mg_of X G y_MOST_LETTERS⟩
  have : WP w TX := ⟨rfl⟩
  exact ⟨TX.fd_law, fun s v => .of_eq rfl, fun base _ _ => ok_law TX⟩
end MB
open PySem PySem.W PyProof.Rows
set_option maxHeartbeats 0 in
theorem PySem.Challenge.cw_mergebudget_k95_whole_time_reversed_holds : PySem.Challenge.rw_mergebudget_k95_whole_time_reversed.Holds := by
  w_on; o_law; k_head; (case hw => w_witness2)
  k_fill
  refine L2.walk_of (l := PySem.Challenge.rw_mergebudget_k95_whole_time_reversed) (n := 63) (k := 13) (x := "_law_script") (CX := fun _ => L2.CX0) (sp := fun w => MB.sp_law _) rfl (by decide) rfl ⟨rfl, by decide, by decide⟩ (fun w h Y => PySem.W.kIn_of Y) ?F (fun _ _ a ns hl _ hS => ⟨a, ns, rfl, hS, hl, fun _ => rfl⟩) (fun _ _ _ _ _ h => h)
  case F =>
    intro w mg fa h KX G hmg
    refine' MB.all_mk KX G hmg ?ac_Store ?pg_Store ?hd_Store ?po_Store ?sa_Store ?mm_Store ?kc_Store ?na_Store_rule ?na_Store_merges ?na_Store_batches ?na_Store_buffer ?na_Store_history ?na_Store_searched ?ad_POLICIES ?kl_POLICIES ?ks_POLICIES ?kn_POLICIES ?ke_POLICIES_manual ?ke_POLICIES_runs ?ke_POLICIES_budget ?a_is_int ?l_is_int ?c_is_int ?k_is_int ?a_is_count ?l_is_count ?c_is_count ?k_is_count ?a_is_count_up_to ?l_is_count_up_to ?c_is_count_up_to ?k_is_count_up_to ?a_are_loads ?l_are_loads ?c_are_loads ?k_are_loads ?a_check_sizes ?l_check_sizes ?c_check_sizes ?k_check_sizes ?a_is_schedule ?l_is_schedule ?c_is_schedule ?k_is_schedule ?a_stacks ?l_stacks ?c_stacks ?k_stacks ?a_stack_after ?l_stack_after ?c_stack_after ?k_stack_after ?a_writes ?l_writes ?c_writes ?k_writes ?a_run_counts ?l_run_counts ?c_run_counts ?k_run_counts ?a_is_tree ?l_is_tree ?c_is_tree ?k_is_tree ?a_is_numbered_in_order ?l_is_numbered_in_order ?c_is_numbered_in_order ?k_is_numbered_in_order ?a_tree_of ?l_tree_of ?c_tree_of ?k_tree_of ?a_schedule_of ?l_schedule_of ?c_schedule_of ?k_schedule_of ?a_edges ?l_edges ?c_edges ?k_edges ?a_edges_above ?l_edges_above ?c_edges_above ?k_edges_above ?a_mirror ?l_mirror ?c_mirror ?k_mirror ?a_mirrored_node ?l_mirrored_node ?c_mirrored_node ?k_mirrored_node ?a_write_work ?l_write_work ?c_write_work ?k_write_work ?a_weighted ?l_weighted ?c_weighted ?k_weighted ?a_is_key ?l_is_key ?c_is_key ?k_is_key ?a_check_key ?l_check_key ?c_check_key ?k_check_key ?a_is_policy ?l_is_policy ?c_is_policy ?k_is_policy ?a_Store___init__ ?if_Store___init__ ?l_Store___init__ ?c_Store___init__ ?k_Store___init__ ?a_Store_put ?if_Store_put ?l_Store_put ?c_Store_put ?k_Store_put ?a_Store_write ?if_Store_write ?l_Store_write ?c_Store_write ?k_Store_write ?dl_Store_flush ?a_Store_flush ?if_Store_flush ?l_Store_flush ?c_Store_flush ?k_Store_flush ?a_Store_check_merge ?if_Store_check_merge ?l_Store_check_merge ?c_Store_check_merge ?k_Store_check_merge ?a_Store_chosen_merge ?if_Store_chosen_merge ?l_Store_chosen_merge ?c_Store_chosen_merge ?k_Store_chosen_merge ?kq_Store_read_moment ?a_Store_read ?if_Store_read ?l_Store_read ?c_Store_read ?k_Store_read ?a_Store_flushes_until ?if_Store_flushes_until ?l_Store_flushes_until ?c_Store_flushes_until ?k_Store_flushes_until ?a_Store_check_moment ?if_Store_check_moment ?l_Store_check_moment ?c_Store_check_moment ?k_Store_check_moment ?a_Store_visited ?if_Store_visited ?l_Store_visited ?c_Store_visited ?k_Store_visited ?a_Store_stack ?if_Store_stack ?l_Store_stack ?c_Store_stack ?k_Store_stack ?a_Store_schedule ?if_Store_schedule ?l_Store_schedule ?c_Store_schedule ?k_Store_schedule ?a_Store_sizes ?if_Store_sizes ?l_Store_sizes ?c_Store_sizes ?k_Store_sizes ?a_Store_written ?if_Store_written ?l_Store_written ?c_Store_written ?k_Store_written ?a_L_start_draws ?l_L_start_draws ?c_L_start_draws ?k_L_start_draws ?a_L_next ?l_L_next ?c_L_next ?k_L_next ?a_L_pick ?l_L_pick ?c_L_pick ?k_L_pick ?a_L_sized ?l_L_sized ?c_L_sized ?k_L_sized ?a_L_both_works ?l_L_both_works ?c_L_both_works ?k_L_both_works ?a_L_some_folds ?l_L_some_folds ?c_L_some_folds ?k_L_some_folds ?a_L_right ?l_L_right ?c_L_right ?k_L_right ?a_law ?l_law ?c_law ?k_law ?z_isinstance ?z_int ?z_bool ?z_all ?z_tuple ?z_len ?z_enumerate ?z_range ?z_max ?z_reversed ?z_sum ?z_zip ?z_str ?z_min ?z_abs ?z_list ?y_MOST_BUDGET ?y_MOST_LOAD ?y_MOST_FLUSHES ?y_NO_PARENT ?y_MOST_POSITION ?y_MOST_LETTERS
    (case ac_Store => k_is); (case pg_Store => k_is); (case hd_Store => k_is); (case po_Store => k_is); (case sa_Store => k_is); (case mm_Store => k_is); (case kc_Store => k_is); (case na_Store_rule => k_is); (case na_Store_merges => k_is); (case na_Store_batches => k_is); (case na_Store_buffer => k_is); (case na_Store_history => k_is); (case na_Store_searched => k_is); (case ad_POLICIES => k_is); (case kl_POLICIES => k_is); (case ks_POLICIES => exact ⟨⟨_, _, rfl, rfl⟩, ⟨_, _, rfl, rfl⟩, ⟨_, _, rfl, rfl⟩, trivial⟩); (case kn_POLICIES => first | rfl | decide +kernel | k_is); (case ke_POLICIES_manual => k_is); (case ke_POLICIES_runs => k_is); (case ke_POLICIES_budget => k_is); (case a_is_int => k_is); (case l_is_int => k_is); (case c_is_int => k_is); (case k_is_int => k_is); (case a_is_count => k_is); (case l_is_count => k_is); (case c_is_count => k_is); (case k_is_count => k_is); (case a_is_count_up_to => k_is); (case l_is_count_up_to => k_is); (case c_is_count_up_to => k_is); (case k_is_count_up_to => k_is); (case a_are_loads => k_is); (case l_are_loads => k_is); (case c_are_loads => k_is); (case k_are_loads => k_is); (case a_check_sizes => k_is); (case l_check_sizes => k_is); (case c_check_sizes => k_is); (case k_check_sizes => k_is); (case a_is_schedule => k_is); (case l_is_schedule => k_is); (case c_is_schedule => k_is); (case k_is_schedule => k_is); (case a_stacks => k_is); (case l_stacks => k_is); (case c_stacks => k_is); (case k_stacks => k_is); (case a_stack_after => k_is); (case l_stack_after => k_is); (case c_stack_after => k_is); (case k_stack_after => k_is); (case a_writes => k_is); (case l_writes => k_is); (case c_writes => k_is); (case k_writes => k_is); (case a_run_counts => k_is); (case l_run_counts => k_is); (case c_run_counts => k_is); (case k_run_counts => k_is); (case a_is_tree => k_is); (case l_is_tree => k_is); (case c_is_tree => k_is); (case k_is_tree => k_is); (case a_is_numbered_in_order => k_is); (case l_is_numbered_in_order => k_is); (case c_is_numbered_in_order => k_is); (case k_is_numbered_in_order => k_is); (case a_tree_of => k_is); (case l_tree_of => k_is); (case c_tree_of => k_is); (case k_tree_of => k_is); (case a_schedule_of => k_is); (case l_schedule_of => k_is); (case c_schedule_of => k_is); (case k_schedule_of => k_is); (case a_edges => k_is); (case l_edges => k_is); (case c_edges => k_is); (case k_edges => k_is); (case a_edges_above => k_is); (case l_edges_above => k_is); (case c_edges_above => k_is); (case k_edges_above => k_is); (case a_mirror => k_is); (case l_mirror => k_is); (case c_mirror => k_is); (case k_mirror => k_is); (case a_mirrored_node => k_is); (case l_mirrored_node => k_is); (case c_mirrored_node => k_is); (case k_mirrored_node => k_is); (case a_write_work => k_is); (case l_write_work => k_is); (case c_write_work => k_is); (case k_write_work => k_is); (case a_weighted => k_is); (case l_weighted => k_is); (case c_weighted => k_is); (case k_weighted => k_is); (case a_is_key => k_is); (case l_is_key => k_is); (case c_is_key => k_is); (case k_is_key => k_is); (case a_check_key => k_is); (case l_check_key => k_is); (case c_check_key => k_is); (case k_check_key => k_is); (case a_is_policy => k_is); (case l_is_policy => k_is); (case c_is_policy => k_is); (case k_is_policy => k_is); (case a_Store___init__ => k_is); (case if_Store___init__ => k_is); (case l_Store___init__ => k_is); (case c_Store___init__ => k_is); (case k_Store___init__ => k_is); (case a_Store_put => k_is); (case if_Store_put => k_is); (case l_Store_put => k_is); (case c_Store_put => k_is); (case k_Store_put => k_is); (case a_Store_write => k_is); (case if_Store_write => k_is); (case l_Store_write => k_is); (case c_Store_write => k_is); (case k_Store_write => k_is); (case a_Store_flush => k_is); (case if_Store_flush => k_is); (case l_Store_flush => k_is); (case c_Store_flush => k_is); (case k_Store_flush => k_is); (case a_Store_check_merge => k_is); (case if_Store_check_merge => k_is); (case l_Store_check_merge => k_is); (case c_Store_check_merge => k_is); (case k_Store_check_merge => k_is); (case a_Store_chosen_merge => k_is); (case if_Store_chosen_merge => k_is); (case l_Store_chosen_merge => k_is); (case c_Store_chosen_merge => k_is); (case k_Store_chosen_merge => k_is); (case a_Store_read => k_is); (case if_Store_read => k_is); (case l_Store_read => k_is); (case c_Store_read => k_is); (case k_Store_read => k_is); (case a_Store_flushes_until => k_is); (case if_Store_flushes_until => k_is); (case l_Store_flushes_until => k_is); (case c_Store_flushes_until => k_is); (case k_Store_flushes_until => k_is); (case a_Store_check_moment => k_is); (case if_Store_check_moment => k_is); (case l_Store_check_moment => k_is); (case c_Store_check_moment => k_is); (case k_Store_check_moment => k_is); (case a_Store_visited => k_is); (case if_Store_visited => k_is); (case l_Store_visited => k_is); (case c_Store_visited => k_is); (case k_Store_visited => k_is); (case a_Store_stack => k_is); (case if_Store_stack => k_is); (case l_Store_stack => k_is); (case c_Store_stack => k_is); (case k_Store_stack => k_is); (case a_Store_schedule => k_is); (case if_Store_schedule => k_is); (case l_Store_schedule => k_is); (case c_Store_schedule => k_is); (case k_Store_schedule => k_is); (case a_Store_sizes => k_is); (case if_Store_sizes => k_is); (case l_Store_sizes => k_is); (case c_Store_sizes => k_is); (case k_Store_sizes => k_is); (case a_Store_written => k_is); (case if_Store_written => k_is); (case l_Store_written => k_is); (case c_Store_written => k_is); (case k_Store_written => k_is); (case a_L_start_draws => k_is); (case l_L_start_draws => k_is); (case c_L_start_draws => k_is); (case k_L_start_draws => k_is); (case a_L_next => k_is); (case l_L_next => k_is); (case c_L_next => k_is); (case k_L_next => k_is); (case a_L_pick => k_is); (case l_L_pick => k_is); (case c_L_pick => k_is); (case k_L_pick => k_is); (case a_L_sized => k_is); (case l_L_sized => k_is); (case c_L_sized => k_is); (case k_L_sized => k_is); (case a_L_both_works => k_is); (case l_L_both_works => k_is); (case c_L_both_works => k_is); (case k_L_both_works => k_is); (case a_L_some_folds => k_is); (case l_L_some_folds => k_is); (case c_L_some_folds => k_is); (case k_L_some_folds => k_is); (case a_L_right => k_is); (case l_L_right => k_is); (case c_L_right => k_is); (case k_L_right => k_is); (case a_law => k_is); (case l_law => k_is); (case c_law => k_is); (case k_law => k_is); (case z_isinstance => k_is); (case z_int => k_is); (case z_bool => k_is); (case z_all => k_is); (case z_tuple => k_is); (case z_len => k_is); (case z_enumerate => k_is); (case z_range => k_is); (case z_max => k_is); (case z_reversed => k_is); (case z_sum => k_is); (case z_zip => k_is); (case z_str => k_is); (case z_min => k_is); (case z_abs => k_is); (case z_list => k_is); (case y_MOST_BUDGET => k_is); (case y_MOST_LOAD => k_is); (case y_MOST_FLUSHES => k_is); (case y_NO_PARENT => k_is); (case y_MOST_POSITION => k_is); (case y_MOST_LETTERS => k_is); (case dl_Store_flush => k_is); (case kq_Store_read_moment => k_is)
