import PyProof.Rows.All
import Wide.All
import OpenK.AllK
import Wide.FinOn
import HandS.ForMost
import HandS.IsInst
import HandS.Wide
import HandS.TupAny
import HandS.TupMul
import HandS.Rev
import HandS.Style
import HandS.Strs
import HandS.Walk
import KE.GoesEnum
import PyProof.ReprRoads
import PyProof.ReprBulk
import HandS.Dict
import HandS.WideMore
import HandS.Conv
import HandS.SortKw
import HandS.SortInts
import KE.DataMinMax
import KE.DatumOrd
import HandS.RevRange
import HandS.Zip
import KE.GoesZip
import KE.GoesMore
import HandS.TupSets
import KE.KDictPairs
import HandS.Deep
import PySem.Challenge.RW_mergebudget_k44_bounds_within_of_any_kin
set_option Elab.async false
set_option linter.all false
set_option maxRecDepth 100000
namespace MB
inductive T where
  | nil
  | node (l r : T)
  deriving DecidableEq

namespace T
def size : T → Nat
  | nil => 0
  | node l r => l.size + 1 + r.size
def runs : T → Nat
  | nil => 0
  | node _ r => 1 + r.runs
def sch : T → List Nat
  | nil => []
  | node l r => l.sch ++ l.runs :: r.sch
def rc : T → List Nat
  | nil => []
  | node l r => l.rc ++ 1 :: r.rc.map (· + 1)
def wr : T → List Nat
  | nil => []
  | node l r => l.wr.map (· + 1) ++ 1 :: r.wr
/-- parents: off, the number of the first node; p, the parent of the root -/
def par (off p : Int) : T → List Int
  | nil => []
  | node l r => par off (off + l.size) l ++ p :: par (off + l.size + 1) (off + l.size) r
def mir : T → T
  | nil => nil
  | node l r => node r.mir l.mir
def push (t : T) (m : Nat) : T :=
  if m = t.runs then node t nil else match t with
    | nil => nil
    | node l r => node l (push r m)
/-- the first flush of the run that a flush that merges m writes -/
def start (t : T) (m : Nat) : Nat :=
  if m = t.runs then 0 else match t with
    | nil => 0
    | node l r => l.size + 1 + start r m
/-- the stack: intervals of the right spine -/
def stk (off : Nat) : T → List (Nat × Nat)
  | nil => []
  | node l r => (off, off + l.size + 1) :: stk (off + l.size + 1) r
def graft : T → T → T
  | nil, t => t
  | node l r, t => node l (graft r t)

theorem sch_len : ∀ t : T, t.sch.length = t.size
  | nil => rfl
  | node l r => by simp [sch, size, sch_len l, sch_len r]; omega
theorem rc_len : ∀ t : T, t.rc.length = t.size
  | nil => rfl
  | node l r => by simp [rc, size, rc_len l, rc_len r]; omega
theorem wr_len : ∀ t : T, t.wr.length = t.size
  | nil => rfl
  | node l r => by simp [wr, size, wr_len l, wr_len r]; omega
theorem par_len : ∀ (t : T) (off p : Int), (t.par off p).length = t.size
  | nil, _, _ => rfl
  | node l r, off, p => by simp [par, size, par_len l, par_len r]; omega
theorem runs_le : ∀ t : T, t.runs ≤ t.size
  | nil => Nat.le_refl _
  | node l r => by have := runs_le r; simp [runs, size]; omega
theorem sum_sch : ∀ t : T, t.sch.sum + t.runs = t.size
  | nil => rfl
  | node l r => by
    have h1 := sum_sch l; have h2 := sum_sch r
    simp [sch, runs, size, List.sum_append]; omega
theorem stk_len : ∀ (t : T) (off : Nat), (t.stk off).length = t.runs
  | nil, _ => rfl
  | node l r, off => by simp [stk, runs, stk_len r]; omega

/-! ### push -/
theorem push_eq {t : T} : t.push t.runs = node t nil := by
  unfold push; rw [if_pos rfl]
theorem push_node {l r : T} {m : Nat} (h : m ≤ r.runs) : (node l r).push m = node l (r.push m) := by
  conv => lhs; unfold push
  rw [if_neg (by simp [runs]; omega)]
theorem start_eq {t : T} : t.start t.runs = 0 := by
  unfold start; rw [if_pos rfl]
theorem start_node {l r : T} {m : Nat} (h : m ≤ r.runs) : (node l r).start m = l.size + 1 + r.start m := by
  conv => lhs; unfold start
  rw [if_neg (by simp [runs]; omega)]
/-- the two ways of a push -/
theorem push_ind {C : T → Nat → Prop} (h1 : ∀ t, C t t.runs) (h2 : ∀ l r m, m ≤ r.runs → C r m → C (node l r) m) : ∀ (t : T) (m : Nat), m ≤ t.runs → C t m
  | nil, m, h => by
    have : m = nil.runs := by simp [runs] at h ⊢; omega
    rw [this]; exact h1 nil
  | node l r, m, h => by
    by_cases e : m = (node l r).runs
    · rw [e]; exact h1 _
    · have hm : m ≤ r.runs := by simp [runs] at h e; omega
      exact h2 l r m hm (push_ind h1 h2 r m hm)
theorem push_sch : ∀ (t : T) (m : Nat), m ≤ t.runs → (t.push m).sch = t.sch ++ [m] :=
  push_ind (fun t => by rw [push_eq]; simp [sch]) fun l r m h ih => by rw [push_node h]; simp [sch, ih]
theorem push_size : ∀ (t : T) (m : Nat), m ≤ t.runs → (t.push m).size = t.size + 1 :=
  push_ind (fun t => by rw [push_eq]; simp [size]) fun l r m h ih => by rw [push_node h]; simp [size, ih]; omega
theorem push_runs : ∀ (t : T) (m : Nat), m ≤ t.runs → (t.push m).runs = t.runs - m + 1 :=
  push_ind (fun t => by rw [push_eq]; simp [runs]) fun l r m h ih => by rw [push_node h]; simp [runs, ih]; omega
theorem push_rc : ∀ (t : T) (m : Nat), m ≤ t.runs → (t.push m).rc = t.rc ++ [t.runs - m + 1] :=
  push_ind (fun t => by rw [push_eq]; simp [rc]) fun l r m h ih => by
    rw [push_node h]; simp [rc, ih, runs]; omega
theorem start_le : ∀ (t : T) (m : Nat), m ≤ t.runs → t.start m ≤ t.size :=
  push_ind (fun t => by rw [start_eq]; omega) fun l r m h ih => by rw [start_node h]; simp [size]; omega
theorem push_wr : ∀ (t : T) (m : Nat), m ≤ t.runs → (t.push m).wr = t.wr.take (t.start m) ++ ((t.wr.drop (t.start m)).map (· + 1) ++ [1]) :=
  push_ind (fun t => by rw [push_eq, start_eq]; simp [wr]) fun l r m h ih => by
    rw [push_node h, start_node h]
    have e : (wr (node l r)) = (l.wr.map (· + 1) ++ [1]) ++ r.wr := by simp [wr]
    have el : (l.wr.map (· + 1) ++ [1]).length = l.size + 1 := by simp [wr_len]
    rw [e, List.take_append, List.drop_append, el]
    rw [List.take_of_length_le (by rw [el]; omega), List.drop_eq_nil_of_le (by rw [el]; omega)]
    rw [show l.size + 1 + r.start m - (l.size + 1) = r.start m by omega]
    simp [wr, ih]
theorem stk_push : ∀ (t : T) (m : Nat), m ≤ t.runs → ∀ off, (t.push m).stk off = (t.stk off).take (t.runs - m) ++ [(off + t.start m, off + t.size + 1)] :=
  push_ind (fun t off => by rw [push_eq, start_eq]; simp [stk]) fun l r m h ih off => by
    rw [push_node h, start_node h]
    have hh : (node l r).runs - m = (r.runs - m) + 1 := by simp [runs]; omega
    rw [hh]
    simp [stk, ih, size]
    omega
theorem stk_at : ∀ (t : T) (m : Nat), m ≤ t.runs → ∀ off, 0 < m → ∃ e, (t.stk off)[t.runs - m]? = some (off + t.start m, e) :=
  push_ind (fun t off h => by
      rw [start_eq, Nat.sub_self]
      cases t with
      | nil => simp [runs] at h
      | node l r => exact ⟨_, rfl⟩) fun l r m h ih off h0 => by
    rw [start_node h]
    have hh : (node l r).runs - m = (r.runs - m) + 1 := by simp [runs]; omega
    rw [hh]
    obtain ⟨e, he⟩ := ih (off + l.size + 1) h0
    refine ⟨e, ?_⟩
    simp only [stk, List.getElem?_cons_succ, he]
    congr 2; omega
theorem start_zero : ∀ (t : T) (m : Nat), m ≤ t.runs → m = 0 → t.start m = t.size :=
  push_ind (fun t h => by
      rw [start_eq]
      cases t with
      | nil => rfl
      | node l r => simp [runs] at h) fun l r m h ih h0 => by
    rw [start_node h, ih h0]; simp [size]

/-! ### schedules and trees -/
theorem graft_nil : ∀ t : T, t.graft nil = t
  | nil => rfl
  | node l r => by simp [graft, graft_nil r]
theorem graft_assoc : ∀ a b c : T, (a.graft b).graft c = a.graft (b.graft c)
  | nil, _, _ => rfl
  | node l r, b, c => by simp [graft, graft_assoc r b c]
theorem graft_runs : ∀ a b : T, (a.graft b).runs = a.runs + b.runs
  | nil, b => by simp [graft, runs]
  | node l r, b => by simp [graft, runs, graft_runs r b]; omega
theorem graft_push : ∀ (u l : T), (u.graft l).push l.runs = u.graft (node l nil)
  | nil, l => by simp [graft, push_eq]
  | node a b, l => by
    simp only [graft]
    rw [push_node (by rw [graft_runs]; omega), graft_push b l]
theorem foldl_sch : ∀ (t u : T), t.sch.foldl push u = u.graft t
  | nil, u => by simp [sch, graft_nil]
  | node l r, u => by
    simp only [sch, List.foldl_append, List.foldl_cons]
    rw [foldl_sch l u, graft_push, foldl_sch r, graft_assoc]
    rfl
theorem sch_inj {a b : T} (h : a.sch = b.sch) : a = b := by
  have e1 := foldl_sch a nil
  have e2 := foldl_sch b nil
  rw [h, e2] at e1
  exact e1.symm
end T

/-- a schedule that begins with `runs` runs -/
def Ok : Nat → List Nat → Prop
  | _, [] => True
  | k, m :: r => m ≤ k ∧ Ok (k - m + 1) r
theorem ok_tree : ∀ (p : List Nat) (u : T), Ok u.runs p → ∃ t : T, t.sch = u.sch ++ p ∧ p.foldl T.push u = t
  | [], u, _ => ⟨u, by simp, rfl⟩
  | m :: r, u, h => by
    obtain ⟨h1, h2⟩ := h
    rw [← T.push_runs u m h1] at h2
    obtain ⟨t, e1, e2⟩ := ok_tree r (u.push m) h2
    exact ⟨t, by rw [e1, T.push_sch u m h1]; simp, e2⟩
theorem tree_ex {p : List Nat} (h : Ok 0 p) : ∃ t : T, t.sch = p := by
  obtain ⟨t, e, _⟩ := ok_tree p .nil h
  exact ⟨t, by rw [e]; rfl⟩
theorem ok_app : ∀ (p q : List Nat) (k k' : Nat), Ok k p → k' + p.sum = k + p.length → Ok k' q → Ok k (p ++ q)
  | [], q, k, k', _, e, h => by
    have : k' = k := by simpa using e
    subst this; exact h
  | m :: r, q, k, k', h, e, hq => ⟨h.1, ok_app r q (k - m + 1) k' h.2 (by have := h.1; simp at e; omega) hq⟩
theorem ok_sch_from : ∀ (t : T) (k : Nat), Ok k t.sch
  | .nil, _ => trivial
  | .node l r, k => by
    refine ok_app l.sch _ k (k + l.runs) (ok_sch_from l k) (by have := T.sum_sch l; rw [T.sch_len]; omega) ?_
    exact ⟨by omega, ok_sch_from r _⟩
theorem ok_take : ∀ (p : List Nat) (k i : Nat), Ok k p → Ok k (p.take i)
  | [], _, i, _ => by cases i <;> trivial
  | m :: r, k, 0, _ => trivial
  | m :: r, k, i + 1, h => ⟨h.1, ok_take r _ i h.2⟩
/-- the tree of the first i flushes -/
def pre (t : T) (i : Nat) : T := (t.sch.take i).foldl T.push .nil
theorem pre_sch (t : T) (i : Nat) : (pre t i).sch = t.sch.take i := by
  obtain ⟨u, e1, e2⟩ := ok_tree (t.sch.take i) .nil (ok_take _ _ i (ok_sch_from t _))
  unfold pre; rw [e2, e1]; rfl
theorem pre_size {t : T} {i : Nat} (h : i ≤ t.size) : (pre t i).size = i := by
  rw [← T.sch_len, pre_sch, List.length_take, T.sch_len]; omega
theorem pre_zero (t : T) : pre t 0 = .nil := rfl
theorem pre_all (t : T) : pre t t.size = t := T.sch_inj (by rw [pre_sch, List.take_of_length_le (by rw [T.sch_len]; exact Nat.le_refl _)])
theorem ok_last : ∀ (p : List Nat) (k m : Nat) (q : List Nat), Ok k (p ++ m :: q) → m + p.sum ≤ k + p.length
  | [], k, m, q, h => by simpa using h.1
  | a :: r, k, m, q, h => by
    have := ok_last r (k - a + 1) m q h.2
    have h1 := h.1
    simp; omega
theorem pre_succ {t : T} {i : Nat} {m : Nat} (h : t.sch[i]? = some m) : pre t (i + 1) = (pre t i).push m ∧ m ≤ (pre t i).runs := by
  have hi : i < t.sch.length := (List.getElem?_eq_some_iff.mp h).1
  constructor
  · unfold pre
    rw [List.take_add_one, h]
    simp
  · have e : t.sch = t.sch.take i ++ m :: t.sch.drop (i + 1) := by
      have h2 := List.getElem?_eq_some_iff.mp h
      obtain ⟨h3, h4⟩ := h2
      rw [← h4]
      simp
    have h1 := ok_sch_from t 0
    rw [e] at h1
    have h2 := ok_last _ _ _ _ h1
    have h3 := T.sum_sch (pre t i)
    rw [pre_sch] at h3
    have h4 : (pre t i).size = (t.sch.take i).length := by rw [← T.sch_len, pre_sch]
    omega
theorem rc_take : ∀ (t : T) (i : Nat), (pre t i).rc = t.rc.take i := by
  intro t i
  by_cases hi : i ≤ t.size
  · suffices h : ∀ k, i + k = t.size → (pre t i).rc = t.rc.take i from h (t.size - i) (by omega)
    intro k
    induction k generalizing i with
    | zero =>
      intro e
      rw [show i = t.size by omega, pre_all, List.take_of_length_le (by rw [T.rc_len]; omega)]
    | succ k ih =>
      intro e
      have hl : i < t.sch.length := by rw [T.sch_len]; omega
      obtain ⟨e1, h1⟩ := pre_succ (List.getElem?_eq_getElem hl)
      have h2 := ih (i + 1) (by omega) (by omega)
      rw [e1, T.push_rc _ _ h1] at h2
      have h3 := congrArg (List.take i) h2
      rw [List.take_append_of_le_length (by rw [T.rc_len, pre_size (by omega)]; omega), List.take_take, List.take_of_length_le (by rw [T.rc_len, pre_size (by omega)]; omega)] at h3
      rw [h3]; congr 1; omega
  · have e : t.sch.take i = t.sch := List.take_of_length_le (by rw [T.sch_len]; omega)
    have : pre t i = t := T.sch_inj (by rw [pre_sch, e])
    rw [this, List.take_of_length_le (by rw [T.rc_len]; omega)]
theorem rc_at {t : T} {i m : Nat} (h : t.sch[i]? = some m) : t.rc[i]? = some ((pre t i).runs - m + 1) := by
  obtain ⟨e1, h1⟩ := pre_succ h
  have hi : i < t.size := by rw [← T.sch_len]; exact (List.getElem?_eq_some_iff.mp h).1
  have h2 := rc_take t (i + 1)
  rw [e1, T.push_rc _ _ h1] at h2
  have h3 := congrArg (fun l : List Nat => l[i]?) h2
  simp only [List.getElem?_take] at h3
  rw [List.getElem?_append_right (by rw [T.rc_len, pre_size (by omega)]; omega), T.rc_len, pre_size (by omega)] at h3
  simp at h3
  exact h3.symm
theorem pre_runs {t : T} {i : Nat} (h : i < t.size) : t.rc[i]? = some (pre t (i + 1)).runs := by
  have hl : i < t.sch.length := by rw [T.sch_len]; exact h
  obtain ⟨e1, h1⟩ := pre_succ (List.getElem?_eq_getElem hl)
  rw [rc_at (List.getElem?_eq_getElem hl), e1, T.push_runs _ _ h1]
/-! ### write counts by place -/
theorem wr_step {t : T} {m : Nat} (h : m ≤ t.runs) (k : Nat) : ((t.push m).wr.getD k 0) = if t.start m ≤ k ∧ k < t.size + 1 then t.wr.getD k 0 + 1 else t.wr.getD k 0 := by
  have hs := T.start_le t m h
  have hl := T.wr_len t
  rw [T.push_wr t m h]
  simp only [List.getD_eq_getElem?_getD]
  by_cases h1 : k < t.start m
  · rw [List.getElem?_append_left (by rw [List.length_take]; omega), List.getElem?_take, if_pos h1, if_neg (by omega)]
  · have e : (t.wr.take (t.start m)).length = t.start m := by rw [List.length_take]; omega
    rw [List.getElem?_append_right (by omega), e]
    by_cases h2 : k < t.size
    · rw [List.getElem?_append_left (by rw [List.length_map, List.length_drop]; omega), List.getElem?_map, List.getElem?_drop, if_pos (by omega), show t.start m + (k - t.start m) = k by omega]
      rw [List.getElem?_eq_getElem (by omega)]
      rfl
    · by_cases h3 : k = t.size
      · have e2 : ((t.wr.drop (t.start m)).map (· + 1)).length = k - t.start m := by rw [List.length_map, List.length_drop]; omega
        rw [List.getElem?_append_right (by omega), e2, Nat.sub_self, if_pos (by omega), List.getElem?_eq_none (by omega : t.wr.length ≤ k)]
        rfl
      · rw [List.getElem?_eq_none (by simp; omega), if_neg (by omega), List.getElem?_eq_none (by omega : t.wr.length ≤ k)]
theorem list_by {c d : List Nat} (hl : c.length = d.length) (h : ∀ k, k < c.length → c[k]? = some (d.getD k 0)) : c = d := by
  refine List.ext_getElem? fun k => ?_
  by_cases hk : k < c.length
  · rw [h k hk, List.getD_eq_getElem?_getD, List.getElem?_eq_getElem (by omega)]
    rfl
  · rw [List.getElem?_eq_none (by omega), List.getElem?_eq_none (by omega)]
theorem stk_last {t : T} {i m : Nat} (h : t.sch[i]? = some m) : (pre t (i + 1)).stk 0 = ((pre t i).stk 0).take ((pre t i).runs - m) ++ [((pre t i).start m, i + 1)] := by
  obtain ⟨e, h1⟩ := pre_succ h
  have hi : i < t.size := by rw [← T.sch_len]; exact (List.getElem?_eq_some_iff.mp h).1
  rw [e, T.stk_push _ _ h1, Nat.zero_add, Nat.zero_add, pre_size (by omega)]

/-! ### subtrees -/
inductive Sub (t : T) : Nat → T → Nat → Int → Prop
  | root : Sub t 0 t 1 (-1)
  | left {off k : Nat} {p : Int} {l r : T} : Sub t off (.node l r) k p → Sub t off l k ((off + l.size : Nat) : Int)
  | right {off k : Nat} {p : Int} {l r : T} : Sub t off (.node l r) k p → Sub t (off + l.size + 1) r (k + 1) ((off + l.size : Nat) : Int)
def T.parOf (t : T) : List Int := t.par 0 (-1)
theorem slice_left {α : Type} {L a b : List α} {x : α} {off : Nat} (h : (L.drop off).take (a.length + 1 + b.length) = a ++ x :: b) : (L.drop off).take a.length = a := by
  have := congrArg (List.take a.length) h
  rw [List.take_take, List.take_left' rfl, show min a.length (a.length + 1 + b.length) = a.length by omega] at this
  exact this
theorem slice_mid {α : Type} {L a b : List α} {x : α} {off : Nat} (h : (L.drop off).take (a.length + 1 + b.length) = a ++ x :: b) : L[off + a.length]? = some x := by
  have := congrArg (fun l : List α => l[a.length]?) h
  simp only [List.getElem?_take, List.getElem?_drop] at this
  rw [if_pos (by omega), List.getElem?_append_right (Nat.le_refl _), Nat.sub_self] at this
  simpa using this
theorem slice_right {α : Type} {L a b : List α} {x : α} {off : Nat} (h : (L.drop off).take (a.length + 1 + b.length) = a ++ x :: b) : (L.drop (off + a.length + 1)).take b.length = b := by
  have := congrArg (List.drop (a.length + 1)) h
  rw [List.drop_take, List.drop_drop] at this
  have e2 : List.drop (a.length + 1) (a ++ x :: b) = b := by
    rw [List.drop_append]; simp
  rw [e2] at this
  have h2 := congrArg (List.take b.length) this
  rw [List.take_take, List.take_length] at h2
  rw [← Nat.add_assoc] at h2
  rw [show b.length = min b.length (a.length + 1 + b.length - (a.length + 1)) by omega]
  exact h2
theorem sub_le {t : T} {off k : Nat} {s : T} {p : Int} (h : Sub t off s k p) : off + s.size ≤ t.size ∧ 1 ≤ k ∧ k ≤ off + 1 := by
  induction h with
  | root => exact ⟨by omega, by omega, by omega⟩
  | left _ ih => simp only [T.size] at ih; omega
  | right _ ih => simp only [T.size] at ih; omega
theorem sub_out {t : T} {off k : Nat} {s : T} {p : Int} (h : Sub t off s k p) : (p = -1 ∨ ((0 ≤ p ∧ p < t.size) ∧ (p + 1 = off ∨ p = ((off + s.size : Nat) : Int)))) := by
  cases h with
  | root => exact .inl rfl
  | left h => have := sub_le h; simp only [T.size] at this; exact .inr ⟨by omega, .inr rfl⟩
  | right h => have := sub_le h; simp only [T.size] at this; exact .inr ⟨by omega, .inl (by omega)⟩
theorem sub_rc {t : T} {off k : Nat} {s : T} {p : Int} (h : Sub t off s k p) : (t.rc.drop off).take s.size = s.rc.map (· + (k - 1)) := by
  induction h with
  | root => simp [← T.rc_len]
  | @left off k p l r h ih =>
    have e : (T.node l r).rc.map (· + (k - 1)) = l.rc.map (· + (k - 1)) ++ (1 + (k - 1)) :: (r.rc.map (· + 1)).map (· + (k - 1)) := by simp [T.rc]
    rw [e] at ih
    have hl : (l.rc.map (· + (k - 1))).length = l.size := by rw [List.length_map, T.rc_len]
    have hr : ((r.rc.map (· + 1)).map (· + (k - 1))).length = r.size := by rw [List.length_map, List.length_map, T.rc_len]
    have := slice_left (a := l.rc.map (· + (k - 1))) (b := (r.rc.map (· + 1)).map (· + (k - 1))) (L := t.rc) (off := off) (x := 1 + (k - 1)) (by rw [hl, hr]; exact ih)
    rw [hl] at this
    exact this
  | @right off k p l r h ih =>
    have e : (T.node l r).rc.map (· + (k - 1)) = l.rc.map (· + (k - 1)) ++ (1 + (k - 1)) :: (r.rc.map (· + 1)).map (· + (k - 1)) := by simp [T.rc]
    rw [e] at ih
    have hl : (l.rc.map (· + (k - 1))).length = l.size := by rw [List.length_map, T.rc_len]
    have hr : ((r.rc.map (· + 1)).map (· + (k - 1))).length = r.size := by rw [List.length_map, List.length_map, T.rc_len]
    have := slice_right (a := l.rc.map (· + (k - 1))) (b := (r.rc.map (· + 1)).map (· + (k - 1))) (L := t.rc) (off := off) (x := 1 + (k - 1)) (by rw [hl, hr]; exact ih)
    rw [hl, hr] at this
    rw [this, List.map_map]
    refine List.map_congr_left fun a _ => ?_
    have := (sub_le h).2.1
    simp only [Function.comp]
    omega
theorem sub_par {t : T} {off k : Nat} {s : T} {p : Int} (h : Sub t off s k p) : (t.parOf.drop off).take s.size = s.par (off : Int) p := by
  induction h with
  | root => simp only [T.parOf]; rw [List.drop_zero, List.take_of_length_le (by rw [T.par_len]; omega)]; rfl
  | @left off k p l r h ih =>
    simp only [T.par] at ih
    have hl := T.par_len l (off : Int) ((off : Int) + l.size)
    have hr := T.par_len r ((off : Int) + l.size + 1) ((off : Int) + l.size)
    have := slice_left (a := l.par (off : Int) ((off : Int) + l.size)) (b := r.par ((off : Int) + l.size + 1) ((off : Int) + l.size)) (L := t.parOf) (off := off) (x := p) (by rw [hl, hr]; exact ih)
    rw [hl] at this
    rw [this, Int.natCast_add]
  | @right off k p l r h ih =>
    simp only [T.par] at ih
    have hl := T.par_len l (off : Int) ((off : Int) + l.size)
    have hr := T.par_len r ((off : Int) + l.size + 1) ((off : Int) + l.size)
    have := slice_right (a := l.par (off : Int) ((off : Int) + l.size)) (b := r.par ((off : Int) + l.size + 1) ((off : Int) + l.size)) (L := t.parOf) (off := off) (x := p) (by rw [hl, hr]; exact ih)
    rw [hl, hr] at this
    rw [this]
    simp only [Int.natCast_add]
    rfl
theorem sub_root {t : T} {off k : Nat} {l r : T} {p : Int} (h : Sub t off (.node l r) k p) : t.parOf[off + l.size]? = some p := by
  have ih := sub_par h
  simp only [T.par] at ih
  have hl := T.par_len l (off : Int) ((off : Int) + l.size)
  have hr := T.par_len r ((off : Int) + l.size + 1) ((off : Int) + l.size)
  have := slice_mid (a := l.par (off : Int) ((off : Int) + l.size)) (b := r.par ((off : Int) + l.size + 1) ((off : Int) + l.size)) (L := t.parOf) (off := off) (x := p) (by rw [hl, hr]; exact ih)
  rw [hl] at this
  exact this
/-- the parents of a subtree: the root's alone lies outside -/
theorem par_in : ∀ (s : T) (off p : Int) (i : Nat) (q : Int), (s.par off p)[i]? = some q → (∃ l r, s = .node l r ∧ i = l.size ∧ q = p) ∨ (off ≤ q ∧ q < off + s.size ∧ ∀ l r, s = .node l r → i ≠ l.size)
  | .nil, _, _, _, _, h => by simp [T.par] at h
  | .node l r, off, p, i, q, h => by
    simp only [T.par] at h
    have hl := T.par_len l off (off + l.size)
    by_cases h1 : i < l.size
    · rw [List.getElem?_append_left (by omega)] at h
      refine .inr ?_
      rcases par_in l off (off + l.size) i q h with ⟨a, b, e, e2, e3⟩ | ⟨h2, h3, _⟩
      · refine ⟨by omega, by simp only [T.size]; omega, fun l' r' e' => by cases e'; omega⟩
      · refine ⟨by omega, by simp only [T.size]; omega, fun l' r' e' => by cases e'; omega⟩
    · rw [List.getElem?_append_right (by omega), hl] at h
      by_cases h2 : i = l.size
      · subst h2
        rw [Nat.sub_self] at h
        have : p = q := by simpa using h
        exact .inl ⟨l, r, rfl, rfl, this.symm⟩
      · obtain ⟨j, e⟩ : ∃ j, i - l.size = j + 1 := ⟨i - l.size - 1, by omega⟩
        rw [e, List.getElem?_cons_succ] at h
        refine .inr ?_
        rcases par_in r (off + l.size + 1) (off + l.size) j q h with ⟨a, b, e4, e2, e3⟩ | ⟨h4, h3, _⟩
        · refine ⟨by omega, by simp only [T.size]; omega, fun l' r' e' => by cases e'; omega⟩
        · refine ⟨by omega, by simp only [T.size]; omega, fun l' r' e' => by cases e'; omega⟩
theorem rc_pos : ∀ (s : T) (i v : Nat), s.rc[i]? = some v → 1 ≤ v
  | .nil, _, _, h => by simp [T.rc] at h
  | .node l r, i, v, h => by
    simp only [T.rc] at h
    by_cases h1 : i < l.size
    · rw [List.getElem?_append_left (by rw [T.rc_len]; exact h1)] at h
      exact rc_pos l i v h
    · rw [List.getElem?_append_right (by rw [T.rc_len]; omega), T.rc_len] at h
      rcases Nat.eq_zero_or_pos (i - l.size) with e | e
      · rw [e] at h; simp at h; omega
      · obtain ⟨j, e⟩ : ∃ j, i - l.size = j + 1 := ⟨i - l.size - 1, by omega⟩
        rw [e, List.getElem?_cons_succ, List.getElem?_map] at h
        cases h2 : r.rc[j]? with
        | none => rw [h2] at h; cases h
        | some u => rw [h2] at h; simp at h; omega
theorem rc_one {l r : T} {i : Nat} (h : (T.node l r).rc[i]? = some 1) : i ≤ l.size := by
  simp only [T.rc] at h
  by_cases h1 : i ≤ l.size
  · exact h1
  · rw [List.getElem?_append_right (by rw [T.rc_len]; omega), T.rc_len] at h
    obtain ⟨j, e⟩ : ∃ j, i - l.size = j + 1 := ⟨i - l.size - 1, by omega⟩
    rw [e, List.getElem?_cons_succ, List.getElem?_map] at h
    cases h2 : r.rc[j]? with
    | none => rw [h2] at h; cases h
    | some u =>
      have := rc_pos r j u h2
      rw [h2] at h; simp at h; omega
theorem rc_root (l r : T) : (T.node l r).rc[l.size]? = some 1 := by
  simp only [T.rc]
  rw [List.getElem?_append_right (by rw [T.rc_len]; exact Nat.le_refl _), T.rc_len, Nat.sub_self]; rfl
theorem sub_rc_at {t : T} {off k : Nat} {s : T} {p : Int} (h : Sub t off s k p) {i : Nat} (hi : i < s.size) : ∃ v, s.rc[i]? = some v ∧ t.rc[off + i]? = some (v + (k - 1)) := by
  have e := congrArg (fun l : List Nat => l[i]?) (sub_rc h)
  simp only [List.getElem?_take, List.getElem?_drop, List.getElem?_map] at e
  rw [if_pos hi] at e
  have hv := List.getElem?_eq_getElem (show i < s.rc.length by rw [T.rc_len]; exact hi)
  rw [hv] at e
  exact ⟨_, hv, e⟩
theorem sub_par_at {t : T} {off k : Nat} {s : T} {p : Int} (h : Sub t off s k p) {i : Nat} (hi : i < s.size) : ∃ q, (s.par (off : Int) p)[i]? = some q ∧ t.parOf[off + i]? = some q := by
  have e := congrArg (fun l : List Int => l[i]?) (sub_par h)
  simp only [List.getElem?_take, List.getElem?_drop] at e
  rw [if_pos hi] at e
  have hv := List.getElem?_eq_getElem (show i < (s.par (off : Int) p).length by rw [T.par_len]; exact hi)
  rw [hv] at e
  exact ⟨_, hv, e⟩
theorem filter_one {f : Nat → Bool} {n c : Nat} (hc : c < n) (h1 : f c = true) (h2 : ∀ i, i < n → f i = true → i = c) : (List.range n).filter f = [c] := by
  induction n with
  | zero => omega
  | succ n ih =>
    rw [List.range_succ, List.filter_append]
    by_cases e : c = n
    · subst e
      have e0 : (List.range c).filter f = [] := List.filter_eq_nil_iff.mpr fun i hi hf => by
        have := List.mem_range.mp hi
        have := h2 i (by omega) hf
        omega
      rw [e0]; simp [h1]
    · rw [ih (by omega) fun i hi hf => h2 i (by omega) hf]
      have : f n = false := by
        cases hf : f n with
        | false => rfl
        | true => exact absurd (h2 n (by omega) hf) (by omega)
      simp [this]
/-- the work of a list of subtrees -/
def todo : List (Nat × T × Nat × Int) → Nat
  | [] => 0
  | x :: r => 2 * x.2.1.size + 1 + todo r
theorem todo_app : ∀ a b, todo (a ++ b) = todo a + todo b
  | [], b => by simp [todo]
  | x :: r, b => by simp [todo, todo_app r b]; omega
theorem len_todo : ∀ L, L.length ≤ todo L
  | [] => Nat.le_refl _
  | x :: r => by have := len_todo r; simp [todo]; omega

/-! ### one step up -/
theorem getD_app_l {a b : List Nat} {i : Nat} (h : i < a.length) : (a ++ b).getD i 0 = a.getD i 0 := by
  simp only [List.getD_eq_getElem?_getD, List.getElem?_append_left h]
theorem getD_app_r {a b : List Nat} {i : Nat} (h : a.length ≤ i) : (a ++ b).getD i 0 = b.getD (i - a.length) 0 := by
  simp only [List.getD_eq_getElem?_getD, List.getElem?_append_right h]
theorem getD_map1 {a : List Nat} {i : Nat} (h : i < a.length) : (a.map (· + 1)).getD i 0 = a.getD i 0 + 1 := by
  simp only [List.getD_eq_getElem?_getD, List.getElem?_map, List.getElem?_eq_getElem h]; rfl
theorem wr_l {l r : T} {i : Nat} (h : i < l.size) : (T.node l r).wr.getD i 0 = l.wr.getD i 0 + 1 := by
  simp only [T.wr]
  rw [getD_app_l (by rw [List.length_map, T.wr_len]; exact h), getD_map1 (by rw [T.wr_len]; exact h)]
theorem wr_m {l r : T} : (T.node l r).wr.getD l.size 0 = 1 := by
  simp only [T.wr]
  rw [getD_app_r (by rw [List.length_map, T.wr_len]; exact Nat.le_refl _), List.length_map, T.wr_len, Nat.sub_self]; rfl
theorem wr_r {l r : T} {j : Nat} : (T.node l r).wr.getD (l.size + 1 + j) 0 = r.wr.getD j 0 := by
  simp only [T.wr]
  rw [getD_app_r (by rw [List.length_map, T.wr_len]; omega), List.length_map, T.wr_len, show l.size + 1 + j - l.size = j + 1 by omega, List.getD_cons_succ]
theorem rc_l {l r : T} {i : Nat} (h : i < l.size) : (T.node l r).rc.getD i 0 = l.rc.getD i 0 := by
  simp only [T.rc]
  rw [getD_app_l (by rw [T.rc_len]; exact h)]
theorem rc_m {l r : T} : (T.node l r).rc.getD l.size 0 = 1 := by
  simp only [T.rc]
  rw [getD_app_r (by rw [T.rc_len]; exact Nat.le_refl _), T.rc_len, Nat.sub_self]; rfl
theorem rc_r {l r : T} {j : Nat} (h : j < r.size) : (T.node l r).rc.getD (l.size + 1 + j) 0 = r.rc.getD j 0 + 1 := by
  simp only [T.rc]
  rw [getD_app_r (by rw [T.rc_len]; omega), T.rc_len, show l.size + 1 + j - l.size = j + 1 by omega, List.getD_cons_succ, getD_map1 (by rw [T.rc_len]; exact h)]
theorem up : ∀ (s : T) (off p : Int) (i : Nat) (q : Int), (s.par off p)[i]? = some q →
    (q = p ∧ s.wr.getD i 0 = 1 ∧ s.rc.getD i 0 = 1) ∨
    ∃ j : Nat, q = off + j ∧ j < s.size ∧ j ≠ i ∧ (i < j → s.wr.getD i 0 = s.wr.getD j 0 + 1 ∧ s.rc.getD i 0 = s.rc.getD j 0) ∧ (j < i → s.wr.getD i 0 = s.wr.getD j 0 ∧ s.rc.getD i 0 = s.rc.getD j 0 + 1)
  | .nil, _, _, _, _, h => by simp [T.par] at h
  | .node l r, off, p, i, q, h => by
    simp only [T.par] at h
    have hl := T.par_len l off (off + l.size)
    by_cases h1 : i < l.size
    · rw [List.getElem?_append_left (by omega)] at h
      refine .inr ?_
      rcases up l off (off + l.size) i q h with ⟨e, e1, e2⟩ | ⟨j, e, hj, hne, c1, c2⟩
      · exact ⟨l.size, e, by simp only [T.size]; omega, by omega, fun _ => ⟨by rw [wr_l h1, wr_m, e1], by rw [rc_l h1, rc_m, e2]⟩, fun z => by omega⟩
      · exact ⟨j, e, by simp only [T.size]; omega, hne, fun z => ⟨by rw [wr_l h1, wr_l hj, (c1 z).1], by rw [rc_l h1, rc_l hj, (c1 z).2]⟩, fun z => ⟨by rw [wr_l h1, wr_l hj, (c2 z).1], by rw [rc_l h1, rc_l hj, (c2 z).2]⟩⟩
    · rw [List.getElem?_append_right (by omega), hl] at h
      by_cases h2 : i = l.size
      · subst h2
        rw [Nat.sub_self] at h
        have : p = q := by simpa using h
        exact .inl ⟨this.symm, wr_m, rc_m⟩
      · obtain ⟨k, e⟩ : ∃ k, i = l.size + 1 + k := ⟨i - l.size - 1, by omega⟩
        subst e
        rw [show l.size + 1 + k - l.size = k + 1 by omega, List.getElem?_cons_succ] at h
        have hk : k < r.size := by
          have := (List.getElem?_eq_some_iff.mp h).1
          rw [T.par_len] at this; exact this
        refine .inr ?_
        rcases up r (off + l.size + 1) (off + l.size) k q h with ⟨e, e1, e2⟩ | ⟨j, e, hj, hne, c1, c2⟩
        · exact ⟨l.size, e, by simp only [T.size]; omega, by omega, fun z => by omega, fun _ => ⟨by rw [wr_r, wr_m, e1], by rw [rc_r hk, rc_m, e2]⟩⟩
        · exact ⟨l.size + 1 + j, by rw [e]; omega, by simp only [T.size]; omega, by omega, fun z => ⟨by rw [wr_r, wr_r, (c1 (by omega)).1], by rw [rc_r hk, rc_r hj, (c1 (by omega)).2]⟩, fun z => ⟨by rw [wr_r, wr_r, (c2 (by omega)).1], by rw [rc_r hk, rc_r hj, (c2 (by omega)).2]⟩⟩
theorem wr_pos {t : T} {i : Nat} (h : i < t.size) : 1 ≤ t.wr.getD i 0 := by
  induction t generalizing i with
  | nil => simp [T.size] at h
  | node l r ihl ihr =>
    by_cases h1 : i < l.size
    · rw [wr_l h1]; omega
    · by_cases h2 : i = l.size
      · subst h2; rw [wr_m]; exact Nat.le_refl _
      · obtain ⟨k, e⟩ : ∃ k, i = l.size + 1 + k := ⟨i - l.size - 1, by omega⟩
        subst e
        rw [wr_r]; exact ihr (by simp only [T.size] at h; omega)
theorem rc_posD {t : T} {i : Nat} (h : i < t.size) : 1 ≤ t.rc.getD i 0 := by
  have := List.getElem?_eq_getElem (show i < t.rc.length by rw [T.rc_len]; exact h)
  rw [List.getD_eq_getElem?_getD, this]
  exact rc_pos t i _ this

/-! ### mirrors -/
def mirN (N : Int) (q : Int) : Int := if q = -1 then -1 else N - 1 - q
theorem mir_size : ∀ t : T, t.mir.size = t.size
  | .nil => rfl
  | .node l r => by simp [T.mir, T.size, mir_size l, mir_size r]; omega
theorem mir_par : ∀ (s : T) (N off p : Int), 0 ≤ off → ((s.par off p).reverse).map (mirN N) = s.mir.par (N - off - s.size) (mirN N p)
  | .nil, _, _, _, _ => rfl
  | .node l r, N, off, p, h => by
    simp only [T.par, T.mir, List.reverse_append, List.reverse_cons, List.map_append, List.map_cons, List.map_nil]
    rw [mir_par l N off (off + l.size) h, mir_par r N (off + l.size + 1) (off + l.size) (by omega), mir_size]
    have e1 : mirN N (off + l.size) = N - 1 - (off + l.size) := by unfold mirN; rw [if_neg (by omega)]
    rw [e1]
    have e2 : N - off - ((T.node l r).size : Int) = N - (off + l.size + 1) - r.size := by simp only [T.size]; omega
    rw [e2]
    have e3 : N - (off + ↑l.size + 1) - ↑r.size + ↑r.size = N - 1 - (off + ↑l.size) := by omega
    rw [e3, show N - 1 - (off + (l.size : Int)) + 1 = N - off - l.size by omega]
    simp
theorem mir_parOf (t : T) : t.mir.parOf = (t.parOf.reverse).map (mirN t.size) := by
  unfold T.parOf
  rw [mir_par t t.size 0 (-1) (by omega)]
  rw [show ((t.size : Int) - 0 - t.size) = 0 by omega]
  rfl
theorem mir_wr : ∀ t : T, t.mir.wr = t.rc.reverse
  | .nil => rfl
  | .node l r => by simp [T.mir, T.wr, T.rc, mir_wr l, mir_wr r]
theorem mir_rc : ∀ t : T, t.mir.rc = t.wr.reverse
  | .nil => rfl
  | .node l r => by simp [T.mir, T.wr, T.rc, mir_rc l, mir_rc r]
theorem mir_mir : ∀ t : T, t.mir.mir = t
  | .nil => rfl
  | .node l r => by simp [T.mir, mir_mir l, mir_mir r]

/-! ### parents of a joined tree -/
theorem par_below {N : Int} : ∀ (s : T) (off p : Int), 0 ≤ off → (s.par off p).map (fun q => if q = -1 then N else q) = s.par off (if p = -1 then N else p)
  | .nil, _, _, _ => rfl
  | .node l r, off, p, h => by
    simp only [T.par, List.map_append, List.map_cons]
    rw [par_below l off _ h, par_below r (off + l.size + 1) _ (by omega), if_neg (by omega : ¬ off + (l.size : Int) = -1)]
theorem par_beyond {N : Int} : ∀ (s : T) (off p : Int), 0 ≤ off → (s.par off p).map (fun q => if q = -1 then N else q + N + 1) = s.par (off + N + 1) (if p = -1 then N else p + N + 1)
  | .nil, _, _, _ => rfl
  | .node l r, off, p, h => by
    simp only [T.par, List.map_append, List.map_cons]
    rw [par_beyond l off _ h, par_beyond r (off + l.size + 1) _ (by omega), if_neg (by omega : ¬ off + (l.size : Int) = -1)]
    have e1 : off + (l.size : Int) + N + 1 = off + N + 1 + l.size := by omega
    have e2 : off + (l.size : Int) + 1 + N + 1 = off + N + 1 + l.size + 1 := by omega
    rw [e1, e2]
theorem parOf_node (s u : T) : (T.node s u).parOf = s.parOf.map (fun q => if q = -1 then (s.size : Int) else q) ++ [-1] ++ u.parOf.map (fun q => if q = -1 then (s.size : Int) else q + s.size + 1) := by
  unfold T.parOf
  rw [par_below s 0 (-1) (by omega), par_beyond u 0 (-1) (by omega)]
  simp only [T.par]
  simp
theorem parOf_root (s u : T) : (T.node s u).parOf[s.size]? = some (-1) := by
  have := sub_root (t := T.node s u) .root
  simpa using this
theorem parOf_first {s u : T} {m : Nat} (h : m < s.size) : (T.node s u).parOf[m]? ≠ some (-1) := fun e => by
  rcases par_in _ _ _ _ _ e with ⟨l, r, e1, e2, _⟩ | ⟨h1, _, _⟩
  · cases e1; omega
  · omega

/-! ### runs as lists of flushes -/
theorem stk_pair : ∀ (t : T) (off j : Nat), j + 1 ≤ t.runs → (t.stk off)[t.runs - (j + 1)]? = some (off + t.start (j + 1), off + t.start j)
  | .nil, _, _, h => by simp [T.runs] at h
  | .node l r, off, j, h => by
    by_cases e : j = r.runs
    · subst e
      have e1 : (T.node l r).runs = r.runs + 1 := by simp [T.runs]; omega
      rw [e1, Nat.sub_self, ← e1, T.start_eq, T.start_node (Nat.le_refl _), T.start_eq]
      rfl
    · have h1 : j + 1 ≤ r.runs := by simp [T.runs] at h; omega
      have e1 : (T.node l r).runs - (j + 1) = (r.runs - (j + 1)) + 1 := by simp [T.runs]; omega
      rw [e1, T.start_node h1, T.start_node (by omega)]
      simp only [T.stk, List.getElem?_cons_succ]
      rw [stk_pair r (off + l.size + 1) j h1]
      congr 2 <;> omega
theorem start_anti : ∀ (t : T) (j : Nat), j + 1 ≤ t.runs → t.start (j + 1) < t.start j
  | .nil, _, h => by simp [T.runs] at h
  | .node l r, j, h => by
    by_cases e : j = r.runs
    · subst e
      have e1 : (T.node l r).runs = r.runs + 1 := by simp [T.runs]; omega
      rw [← e1, T.start_eq, T.start_node (Nat.le_refl _), T.start_eq]
      omega
    · have h1 : j + 1 ≤ r.runs := by simp [T.runs] at h; omega
      rw [T.start_node h1, T.start_node (by omega)]
      have := start_anti r j h1
      omega
/-- the flushes of [a, b) -/
def seg (a b : Nat) : List Nat := List.range' a (b - a)
theorem seg_app {a b c : Nat} (h1 : a ≤ b) (h2 : b ≤ c) : seg a b ++ seg b c = seg a c := by
  unfold seg
  have := List.range'_append_1 (s := a) (m := b - a) (n := c - b)
  rw [show a + (b - a) = b by omega, show b - a + (c - b) = c - a by omega] at this
  exact this
theorem seg_one (a : Nat) : seg a (a + 1) = [a] := by
  unfold seg
  rw [show a + 1 - a = 1 by omega]; rfl
theorem seg_nil (a : Nat) : seg a a = [] := by unfold seg; rw [Nat.sub_self]; rfl
theorem seg_len (a b : Nat) : (seg a b).length = b - a := by unfold seg; rw [List.length_range']
theorem seg_at {a b k : Nat} (h : a + k < b) : (seg a b)[k]? = some (a + k) := by
  unfold seg
  rw [List.getElem?_range' (by omega)]
  simp
theorem stk_take_succ {t : T} {j : Nat} (off : Nat) (h : j + 1 ≤ t.runs) : (t.stk off).take (t.runs - j) = (t.stk off).take (t.runs - (j + 1)) ++ [(off + t.start (j + 1), off + t.start j)] := by
  rw [show t.runs - j = (t.runs - (j + 1)) + 1 by omega, List.take_add_one, stk_pair t off j h]; rfl
/-- adjacent, from off on -/
theorem stk_starts : ∀ (t : T) (off : Nat), (t.stk off).map (·.1) = (off :: (t.stk off).map (·.2)).dropLast
  | .nil, _ => rfl
  | .node l r, off => by
    have ih := stk_starts r (off + l.size + 1)
    simp only [T.stk, List.map_cons]
    rw [ih]; rfl
theorem stk_stops : ∀ (t : T) (off : Nat), (off :: (t.stk off).map (·.2)).getLast? = some (off + t.size)
  | .nil, off => by simp [T.stk, T.size]
  | .node l r, off => by
    have ih := stk_stops r (off + l.size + 1)
    simp only [T.stk, List.map_cons, T.size]
    rw [List.getLast?_cons_cons, ih]
    congr 1; omega
theorem stk_lt : ∀ (t : T) (off : Nat) (p : Nat × Nat), p ∈ t.stk off → off ≤ p.1 ∧ p.1 < p.2 ∧ p.2 ≤ off + t.size
  | .nil, _, _, h => by simp [T.stk] at h
  | .node l r, off, p, h => by
    simp only [T.stk] at h
    rcases List.mem_cons.mp h with rfl | h
    · simp only [T.size]; omega
    · have := stk_lt r _ p h
      simp only [T.size]; omega
end MB

set_option maxHeartbeats 4000000
namespace MB
open PySem PySem.Spec PyProof.Rows L2

/-! ### great powers -/
def CPowW (i j : Int) : Prop := 0 ≤ j ∧ (Builtin.Int.intBits i : Int) * j ≤ 2 ^ 27
theorem op_powW {X : Cx} : OpR X (binaryOp .Pow) (rI CPowW fun i j => .int (i ^ j.toNat)) := opI fun _ _ _ _ _ _ _ hc q => pow_int hc.1 hc.2 q

/-! ### xs[i] op= e -/
theorem get_list {X : Cx} : PGet X (rIxL X.K) := by
  intro pins s σ H x y v u Q I rx ry h
  obtain ⟨p, xs, i, z, rfl, rfl, hq, he, q⟩ := h
  cases rx
  obtain ⟨t, rfl⟩ := ry
  obtain ⟨its, r, pl, hz⟩ := I.list hq
  obtain ⟨j, h1, h2, h3, h4, h5⟩ := atI_get he
  obtain ⟨w, ew, rw'⟩ := r.get h2
  have hl := r.length
  have hn := line63
  have fin : EP X pins σ Q w s := ⟨z, H, I, rw', q⟩
  by_cases h0 : 0 ≤ i
  · have hj : i.toNat = j := by
      rw [seqIndex_of h0 h5] at h1
      exact Option.some.inj h1
    exact getItem_listL pl.isList h0 (by omega) (by rw [hj]; exact ew) fin
  · have hj : (i + (its.toArray.size : Int)).toNat = j := by
      rw [seqIndex_neg (by omega) h4] at h1
      rw [List.size_toArray, ← hl]
      exact Option.some.inj h1
    exact wpAny_getItem_list_neg pl.isList (by omega) (by rw [List.size_toArray] <;> omega) (by omega) (by rw [hj]; simpa using ew) fin

/-! ### sum of a tuple of ints -/
theorem ints_at : ∀ {ns : List Int} {its : List Value}, Vals (ns.map V.int) its → ∀ (i : Nat) (v : Value), its[i]? = some v → ∃ t, v = .int (ns.getD i 0) t
  | [], _, .nil, i, v, h => by simp at h
  | n :: ns, u :: us, .cons r rr, 0, v, h => by
    obtain ⟨t, rfl⟩ := r
    simp at h
    exact ⟨t, by simp [h]⟩
  | n :: ns, u :: us, .cons r rr, i + 1, v, h => by
    have := ints_at rr i v (by simpa using h)
    simpa using this
theorem preSum_getD (ns : List Int) : ∀ k, k ≤ ns.length → preSum (fun i => ns.getD i 0) k = (ns.take k).sum
  | 0, _ => by simp [preSum]
  | k + 1, h => by
    have e : ns[k]? = some (ns.getD k 0) := by
      rw [List.getElem?_eq_getElem (by omega), List.getD_eq_getElem?_getD, List.getElem?_eq_getElem (by omega)]
      rfl
    rw [preSum, preSum_getD ns k (by omega), L2.sum_take e]
def rSumT (K : PySem.W.Frag) : List V → Hp → VK → Prop := fun xs H Q => ∃ (a : Addr) (ns : List Int), xs = [V.ref a] ∧ SqT K H a (ns.map V.int) ∧ Q (.int ns.sum) H
theorem cr_sumT {X : Cx} (hc : X.calm = true) : CallR X (.builtin "sum") (rSumT X.K) := by
  intro pins s σ H vs us Q I r h
  obtain ⟨a, ns, rfl, hs, q⟩ := h
  obtain ⟨its, rv, hl, _⟩ := I.tuple hs
  rw [Vals.ref1 r]
  have hT : s.heap.IsTuple a its.toArray := hl
  have hlt : a < s.heap.objs.size := by obtain ⟨_, e, _⟩ := hl; exact Heap.lt_size e
  refine PySem.call_sum_walkG (wpAny_pyIter_tuple hT ?_)
  refine ⟨s.heap.objs.size, [s.heap.objs.size, a], [s.heap.objs.size], its.toArray.size, _, _, fun i => ns.getD i 0, rfl, Walks.tuple (A := X.A.in1) (I.ok.hd hc) _ a (Nat.ne_of_lt hlt) its.toArray, ⟨⟨_, Heap.get?_push_size _ rfl, rfl, rfl⟩, hT.at fun o e => Heap.get?_push_of_some _ e⟩, fun b hb => ?_, fun i v hv => ints_at rv i v (by simpa using hv), fun h' tk t' hk => ?_⟩
  · show b < (s.heap.push _).objs.size
    rw [Heap.size_push]
    have e : b = s.heap.objs.size ∨ b = a := by simpa using hb
    rcases e with e | e
    · rw [e]; exact Nat.lt_succ_self _
    · rw [e]; exact Nat.lt_succ_of_lt hlt
  · have el : its.toArray.size = ns.length := by rw [List.size_toArray, ← rv.length, List.length_map]
    rw [el, preSum_getD ns _ (Nat.le_refl _), List.take_length]
    refine ⟨.int ns.sum, H, I.kept fun b o e => hk b o ?_ (Heap.get?_push_of_some _ e), ⟨_, rfl⟩, q⟩
    have := Heap.lt_size e
    simp only [List.mem_singleton]
    exact Nat.ne_of_lt this

/-! ### enumerate(tuple) -/
set_option maxHeartbeats 4000000 in
theorem meets_enumerate_newT (l : Addr) (items : Array Value) (n : Nat) (dct : Option Addr) (sl : Array (Option Value)) :
    Meets (Builtin.«enumerate.__new__» ⟨[.type "enumerate", .ref l], []⟩) (fun _ R s => s.heap.get? l = some { cls := .type "tuple", dict := dct, data := .seq items n, slots := sl } ∧
      R (.ok (.ret (.ref (s.heap.push { cls := .type "tuple_iterator", data := .fields #[.ref l, .int 0 0] }).objs.size)))
        { s with heap := (s.heap.push { cls := .type "tuple_iterator", data := .fields #[.ref l, .int 0 0] }).push { cls := .type "enumerate", data := .fields #[.none, .bool false, .ref s.heap.objs.size, rawInt 0, .none, .none] } }) :=
  .of_wp fun prog w A R s h => by
    obtain ⟨hp, g, d, tk, os⟩ := s; obtain ⟨hl, h⟩ := h
    have hsub := sub_enumerate
    have hL : Heap.IsTuple (Shared.heap ⟨hp, g, d, tk, os⟩) l items := ⟨_, hl, rfl, n, rfl⟩
    wp_walk using AutoSeq1.wpAny_loadPart' hl
    refine wpAny_stack_any fun st => wpAny_pure ?_
    split
    · rename_i c _ _ _ _ _
      cases (c == Value.type "enumerate")
      · wp_walk using AutoSeq1.wpAny_loadPart' hl, wpAny_pyIter_tuple hL
        exact ⟨_, rfl, h⟩
      · wp_walk using AutoSeq1.wpAny_loadPart' hl, wpAny_pyIter_tuple hL
        exact ⟨_, rfl, h⟩
    · wp_walk using AutoSeq1.wpAny_loadPart' hl, wpAny_pyIter_tuple hL
      exact ⟨_, rfl, h⟩
section
variable {prog : Program} {w : World} {A : Around} {E : Value → Shared → Prop} {s : Shared}
theorem call_enumerate_tuple {l : Addr} {items : Array Value} {Q : Value → Shared → Prop} (hL : s.heap.IsTuple l items)
    (h : ∀ h', IsEnum h' (s.heap.objs.size + 1) s.heap.objs.size 0 .none → h'.IsTupleIter s.heap.objs.size l 0 → h'.objs.size = s.heap.objs.size + 2 →
      (∀ b o, s.heap.get? b = some o → h'.get? b = some o) → Q (.ref (s.heap.objs.size + 1)) { s with heap := h' }) :
    wpAny (model prog w) A (call (.type "enumerate") [.ref l]) Q E s := by
  obtain ⟨⟨c, dct, dt, sl⟩, hl, hc, n, hd⟩ := hL
  replace hc : c = .type "tuple" := hc
  replace hd : dt = .seq items n := hd
  subst hc hd
  refine callType_new F.called_enumerate (by decide) (F.typeCall_enumerate_1 _) (F.newCall_enumerate_1 _) (fun obj => F.args_object_init_2 obj _) F.entry_enumerate_new
    (meets_enumerate_newT l items n dct sl) ⟨hl, ?_⟩
  have hz : (s.heap.push { cls := .type "tuple_iterator", data := .fields #[.ref l, .int 0 0] }).objs.size = s.heap.objs.size + 1 := Heap.size_push ..
  show _ ∧ _
  rw [hz]
  have he : IsEnum ((s.heap.push { cls := .type "tuple_iterator", data := .fields #[.ref l, .int 0 0] }).push
      { cls := .type "enumerate", data := .fields #[.none, .bool false, .ref s.heap.objs.size, rawInt 0, .none, .none] }) (s.heap.objs.size + 1) s.heap.objs.size 0 .none := by
    have := Heap.get?_push_size (s.heap.push { cls := .type "tuple_iterator", data := .fields #[.ref l, .int 0 0] })
      (o := { cls := .type "enumerate", data := .fields #[.none, .bool false, .ref s.heap.objs.size, rawInt 0, .none, .none] }) rfl
    rw [hz] at this; exact this
  refine ⟨⟨_, he, rfl⟩, h _ he ⟨_, Heap.get?_push_of_some _ (Heap.get?_push_size _ rfl), rfl, rfl⟩ (by rw [Heap.size_push, hz]) fun b o x => Heap.get?_push_of_some _ (Heap.get?_push_of_some _ x)⟩
end
def IteT (K : PySem.W.Frag) (a : Addr) : It :=
  ⟨fun i H => ∃ (xs : List V) (x : V), SqT K H a xs ∧ xs[i]? = some x, fun i H v H' => ∃ T x, v = .ref T ∧ H T = none ∧ H' = upd H T (.tup [.int (i : Nat), x]) ∧ ∀ xs, SqT K H a xs → xs[i]? = some x, fun i H => ∃ xs : List V, SqT K H a xs ∧ xs.length = i⟩
theorem tup_ne {h : Heap} {a it : Addr} {items : Array Value} {i : Nat} (h1 : h.IsTuple a items) (h2 : h.IsTupleIter it a i) : a ≠ it := fun e => by
  obtain ⟨o, ho, hc, n, hd⟩ := h1
  obtain ⟨o', ho', hc', hd'⟩ := h2
  rw [e] at ho
  rw [ho] at ho'
  cases ho'
  rw [hd] at hd'
  cases hd'
theorem turn_enumT {P : Program} {w : World} {K : PySem.W.Frag} {elts : List Expr} {kk : Nat} {tpos : Pos} (a e it : Addr) (hae : a ≠ e) :
    Turn P w K (.Tuple elts kk tpos) (IteT K a) [e, it] e (fun i h => (∃ old, IsEnum h e it ((i : Nat) : Int) old) ∧ h.IsTupleIter it a i ∧ e ≠ it) where
  mem := by simp
  obj := fun i h st b hb => by
    obtain ⟨⟨old, he⟩, ⟨o, ho, hc, hd⟩, _⟩ := st
    have e' : b = e ∨ b = it := by simpa using hb
    rcases e' with z | z
    · rw [z]; exact ⟨_, he, fun v q => nomatch q⟩
    · rw [z]; exact ⟨o, ho, fun v q => by rw [hd] at q; cases q⟩
  keep := fun i h h' st k => let ⟨⟨old, he⟩, hi, hne⟩ := st; ⟨⟨old, k e (by simp) _ he⟩, hi.at fun o q => k it (by simp) o q, hne⟩
  item := by
    intro X hP hw hK hc i pins s σ H E I hf st hg
    subst hP hw hK
    obtain ⟨⟨old, he⟩, hit, hne⟩ := st
    obtain ⟨xs, x, hq, hx⟩ := hg
    obtain ⟨its, rv, p, hz⟩ := I.tuple hq
    have p : s.heap.IsTuple a its.toArray := p
    have hat : a ≠ it := tup_ne p hit
    have hel : e < s.heap.objs.size := Heap.lt_size he
    have hil : it < s.heap.objs.size := by obtain ⟨_, q, _⟩ := hit; exact Heap.lt_size q
    have hlen : i < its.toArray.size := by
      rw [List.size_toArray, ← rv.length]; exact (List.getElem?_eq_some_iff.mp hx).1
    refine wpAny_pyNext_enum_itemD (Draws.tuple (prog := X.prog) (w := X.w) (A := X.A.in1) (I.ok.hd hc) it a hat its.toArray) he ⟨hit, p⟩ hlen hne (by simp; exact ⟨hne, fun z => hae z.symm⟩) fun u h' tk hu ho hit' hT hsz hk => ?_
    obtain ⟨u', hu', ru'⟩ := rv.get hx
    have eu : u = u' := by
      have h1 : its[i]? = some u := by simpa using hu
      rw [h1] at hu'; exact Option.some.inj hu'
    subst eu
    refine ⟨_, rfl, wpAny_letOwnedTupleGo_enum (s := { s with heap := h', toks := tk + 1 }) ho fun h'' he' sb => ?_⟩
    have hT2 : h''.get? s.heap.objs.size = some { cls := .type "tuple", data := .seq #[.int i tk, u] } := (sb.2 _ (Nat.ne_of_gt hel)).trans hT
    have new : ObjOk X.prog X.w (upd H s.heap.objs.size (.tup [.int (i : Nat), x])) h'' s.heap.objs.size (.tup [.int (i : Nat), x]) :=
      ⟨by show 2 ≤ sizeLine; decide, [.int i tk, u], .cons ⟨_, rfl⟩ (.cons ru' .nil), ⟨_, hT2, rfl, _, rfl⟩⟩
    have I1 : Inv X pins σ (upd H s.heap.objs.size (.tup [.int (i : Nat), x])) { s with heap := h'', toks := tk + 1 } :=
      I.turnedNew (ch := [e, it]) (fun b ob hb q => (sb.2 b (fun z => hb (by simp [z]))).trans (hk b ob (fun z => hb (by simp [z])) (fun z => hb (by simp [z])) q)) hf (Nat.le_refl _) new
    refine ⟨.ref s.heap.objs.size, _, I1, rfl, ⟨_, x, rfl, I.hok.fresh (Nat.le_refl _), rfl, fun ys hy => by rw [I.tuple_inj hy hq]; exact hx⟩, ⟨⟨u, ?_⟩, hit'.1.at fun o q => (sb.2 it (Ne.symm hne)).trans q, hne⟩, fun b hb => ?_⟩
    · have e1 : ((i + 1 : Nat) : Int) = (i : Int) + 1 := by omega
      rw [e1]; exact he'
    · have hb' : b < s.heap.objs.size := by
        have e' : b = e ∨ b = it := by simpa using hb
        rcases e' with z | z
        · rw [z]; exact hel
        · rw [z]; exact hil
      rw [upd_ne (Nat.ne_of_lt hb')]
      exact (hf b hb).1
  done := by
    intro X hP hw hK hc i pins s σ H E I hf st hg
    subst hP hw hK
    obtain ⟨⟨old, he⟩, hit, hne⟩ := st
    obtain ⟨xs, hq, hx⟩ := hg
    obtain ⟨its, rv, p, hz⟩ := I.tuple hq
    have p : s.heap.IsTuple a its.toArray := p
    have hat : a ≠ it := tup_ne p hit
    obtain ⟨f0, f1, f2, f3, f4, f5⟩ := hf it (by simp)
    have hlen : its.toArray.size = i := by rw [List.size_toArray, ← rv.length, hx]
    refine wpAny_pyNext_enum_endD (Draws.tuple (prog := X.prog) (w := X.w) (A := X.A.in1) (I.ok.hd hc) it a hat its.toArray) he ?_ fun h' eb => ⟨rfl, I.turned (t' := s.toks) (fun b o hb q => eb b o hb q) f0 f1 f3 f4 f5⟩
    rw [hlen]
    exact ⟨hit, p⟩
  self := fun A i s Q E st h => let ⟨⟨_, he⟩, _⟩ := st; wpAny_pyIter_enum he h
def iEnumT (K : PySem.W.Frag) (ta : TA) : TI := fun σ H R => ta σ H fun vs H1 => ∃ a xs, vs = [.ref a] ∧ SqT K H1 a xs ∧ R (IteT K a) H1
theorem pi_enumT {X : Cx} {e : Expr} {ta : TA} {p pos tpos : Pos} {elts : List Expr} {kk : Nat} (hg : Gl X "enumerate") (hm : X.mg "enumerate" = none) (ha : PA X [e] ta) (hs : starEach [e] X.env = [(false, eval e X.env)] := by rfl) :
    PI X (.Tuple elts kk tpos) (.Call (.Name "enumerate" p) [e] [] pos) (iEnumT X.K ta) := by
  refine ⟨fun pins s σ H R I h => ?_⟩
  refine Call_ (ld_blt I hg hm boot_enumerate (PyProof.Rows.callWith_type1 (thn (ha.run pos pins s σ H _ I h) fun us s1 ⟨vs, H1, I1, r1, q1⟩ => ?_) hs rfl))
  obtain ⟨a, xs, ex, hq, q⟩ := q1
  subst ex
  cases r1 with
  | cons r rr =>
    cases rr
    cases r
    obtain ⟨its, rv, p', hz⟩ := I1.tuple hq
    have hlt : a < s1.heap.objs.size := by obtain ⟨_, e, _⟩ := p'; exact Heap.lt_size e
    refine call_enumerate_tuple p' fun h' he hit hsz hk => wpAny_pyIter_enum he ?_
    have I2 : Inv X pins σ H1 { s1 with heap := h' } := I1.kept (t' := s1.toks) hk
    refine ⟨s1.heap.objs.size + 1, [s1.heap.objs.size + 1, s1.heap.objs.size], _, _, H1, rfl, I2, turn_enumT a (s1.heap.objs.size + 1) s1.heap.objs.size (Nat.ne_of_lt (Nat.lt_succ_of_lt hlt)), ⟨⟨.none, he⟩, hit, Nat.succ_ne_self _⟩, fun b hb => ?_, q⟩
    have e' : b = s1.heap.objs.size + 1 ∨ b = s1.heap.objs.size := by simpa using hb
    have hle : s1.heap.objs.size ≤ b := by
      rcases e' with z | z
      · rw [z]; exact Nat.le_add_right _ _
      · rw [z]; exact Nat.le_refl _
    exact I1.fpOk hle (I1.hok.fresh hle)
theorem walk_enumT {K : PySem.W.Frag} {a : Addr} {xs : List V} : Walk (IteT K a) xs.length (fun H => SqT K H a xs) (YPair (fun i => some (.int (i : Nat))) (fun i => xs[i]?)) := by
  refine ⟨fun i H hi hG => ⟨xs, xs[i], hG, List.getElem?_eq_getElem hi⟩, fun H hG => ⟨xs, hG, rfl⟩, fun i H x H' hi hG y => ?_⟩
  obtain ⟨T, x, e1, e2, e3, e4⟩ := y
  exact ⟨T, _, x, e1, e2, e3, rfl, e4 xs hG⟩

/-! ### tuple.index of an int -/
theorem flat_ints (ns : List Int) : (ns.map V.int).all flatV = true := by
  rw [List.all_map]
  exact List.all_eq_true.mpr fun _ _ => rfl
theorem mt_tindex {X : Cx} : MtR X "tuple.index" (fun x xs H Q => ∃ p, ∃ ys : List Int, ∃ z j, x = .ref p ∧ xs = [.int z] ∧ SqT X.K H p (ys.map V.int) ∧ ys[j]? = some z ∧ (∀ m, m < j → ys[m]? ≠ some z) ∧ Q (.int (j : Nat)) H) := by
  intro pins s σ H x xs v us Q I rx rs h
  obtain ⟨p, ys, z, j, rfl, rfl, hq, hy, hno, q⟩ := h
  cases rx
  obtain ⟨u, rfl, t, rfl⟩ := vals1 rs
  obtain ⟨its, r, pl, hz⟩ := I.tuple hq
  obtain ⟨⟨cls, dd, dt, sl⟩, ho, hc, n, hd⟩ := pl
  simp only at hc hd
  subst hc
  subst hd
  have hl : its.toArray.size = ys.length := by rw [List.size_toArray, ← r.length, List.length_map]
  have hj : j < its.toArray.size := by rw [hl]; exact (List.getElem?_eq_some_iff.mp hy).1
  have at' : ∀ (m : Nat) (hm : m < its.toArray.size), ∃ y t', ys[m]? = some y ∧ its.toArray[m] = Value.int y t' := fun m hm => by
    have hm' : m < ys.length := by rw [← hl]; exact hm
    obtain ⟨w, hw, t', hw'⟩ := r.get (i := m) (x := .int ys[m]) (by simp [hm'])
    refine ⟨ys[m], t', List.getElem?_eq_getElem hm', ?_⟩
    have e := (List.getElem?_eq_some_iff.mp hw).2
    rw [← hw', ← e]
    simp
  refine call_meets PySem.F.slot_tuple_index ⟨_, ho, rfl⟩ PySem.F.entry_tuple_index (PySem.F.args_tuple_index_2 _ _) (TI.tuple_indexAt p its.toArray n dd sl (.int z t) (eqU (.int z)) j hj ?_ ?_)
    ⟨ho, fun w hw => mem_eqAt (x := .int z) ⟨t, rfl⟩ rfl r (flat_ints ys) w (by simpa using hw), ⟨.int (j : Nat), H, I.tok _, ⟨_, rfl⟩, q⟩⟩
  · obtain ⟨y, t', h1, h2⟩ := at' j hj
    rw [hy] at h1
    cases h1
    rw [h2]
    show (z == z) = true
    exact beq_self_eq_true z
  · intro m hm hmj
    obtain ⟨y, t', h1, h2⟩ := at' m hm
    rw [h2]
    show (y == z) = false
    exact beq_eq_false_iff_ne.mpr fun e => hno m hmj (e ▸ h1)

/-! ### rules by the written part K itself (for a comprehension's block) -/
def rLen (K : PySem.W.Frag) : List V → Hp → VK → Prop := fun xs H Q => ∃ p ys, xs = [.ref p] ∧ (SqL K H p ys ∨ SqT K H p ys) ∧ Q (.int ys.length) H
def rTupOf (K : PySem.W.Frag) : List V → Hp → VK → Prop := fun xs H Q => ∃ p ys, xs = [.ref p] ∧ ((SqL K H p ys ∧ ∀ l, H l = none → Q (.ref l) (upd H l (.tup ys))) ∨ (SqT K H p ys ∧ Q (.ref p) H))
def rListOf (K : PySem.W.Frag) : List V → Hp → VK → Prop := fun xs H Q => ∃ p ys, xs = [.ref p] ∧ (SqL K H p ys ∨ SqT K H p ys) ∧ ∀ l, H l = none → Q (.ref l) (upd H l (.lst ys))
section
variable {X : Cx} {K : PySem.W.Frag}
theorem k_len (hK : X.K = K) : CallR X (.builtin "len") (rLen K) := by subst hK; exact call_len_seq
theorem k_tupOf (hK : X.K = K) : CallR X (.type "tuple") (rTupOf K) := by subst hK; exact call_tuple_of
theorem k_listOf (hK : X.K = K) : CallR X (.type "list") (rListOf K) := by subst hK; exact call_list_of
theorem k_isi (hK : X.K = K) : CallR X (.builtin "isinstance") (rIsi K) := by subst hK; exact call_isi
theorem k_ixT (hK : X.K = K) : IxR X (rIxT K) := by subst hK; exact ix_tup
theorem k_ixL (hK : X.K = K) : IxR X (rIxL K) := by subst hK; exact ix_list
theorem k_slT (hK : X.K = K) : SlR X (rSlA K) := by subst hK; exact sl_tupA
theorem k_catT (hK : X.K = K) : OpR X (binaryOp .Add) (rCatA K) := by subst hK; exact op_catA
theorem k_sumT (hK : X.K = K) (hc : X.calm = true) : CallR X (.builtin "sum") (rSumT K) := by subst hK; exact cr_sumT hc
end

/-! ### a statement, then the rest, with a word between them -/
def tCut (t u : TS) : TS := fun D σ H => ∃ Mid : L2.St → Hp → Prop, t { D with nx := Mid } σ H ∧ ∀ σ' H', Mid σ' H' → u D σ' H'
theorem pss_cut {X : Cx} {st : Stmt} {rest : List Stmt} {t u : TS} (h1 : PS X st t) (h2 : PSs X rest u) : PSs X (st :: rest) (tCut t u) := by
  refine ⟨fun pins s σ H D I h => ?_⟩
  obtain ⟨Mid, hm, hu⟩ := h
  refine wpAny_execs_cons (thn (h1.run pins s σ H { D with nx := Mid } I hm) fun f s1 q => ?_)
  cases f with
  | next =>
    obtain ⟨σ', H', I', q⟩ := q
    exact h2.run pins s1 σ' H' D I' (hu σ' H' q)
  | ret v => exact q
  | brk => exact q
  | cont => exact q

/-! ### a tuple that is known to be plain; its method index -/
def rTupOfZ (K : PySem.W.Frag) : List V → Hp → VK → Prop := fun xs H Q => ∃ p ys, xs = [.ref p] ∧ SqL K H p ys ∧ ∀ l o, H l = none → o.dict = none → Q (.ref l) (upd H l (.frz o (.tup ys)))
theorem k_tupOfZ {X : Cx} {K : PySem.W.Frag} (hK : X.K = K) : CallR X (.type "tuple") (rTupOfZ K) := by
  subst hK
  intro pins s σ H xs us Q I r h
  obtain ⟨p, ys, rfl, hq, q⟩ := h
  obtain ⟨u, rfl, rx⟩ := vals1 r
  cases rx
  obtain ⟨its, r', pl, hz⟩ := I.list hq
  have hlen := r'.length
  refine call_tuple_list pl.isList (fun h' kp => ?_) (by simp only [List.size_toArray] <;> omega)
  have I1 : Inv X pins σ H { s with heap := h' } := I.kept (t' := s.toks) kp
  have I2 : Inv X pins σ (upd H h'.objs.size (.frz { cls := .type "tuple", data := .seq its.toArray } (.tup ys))) { s with heap := h'.push { cls := .type "tuple", data := .seq its.toArray } } :=
    I1.laid (t' := s.toks) (fun b o e => Heap.get?_push_of_some _ e) (Nat.le_refl _) (show ObjOk X.prog X.w _ _ _ (.frz _ (.tup ys)) from ⟨Heap.get?_push_size _ rfl, hz, its, r', IsTup.new _ _⟩)
  exact ⟨.ref h'.objs.size, _, I2, rfl, q _ _ (I1.hok.fresh (Nat.le_refl _)) rfl⟩
def tTM (r : V → List V → Hp → VK → Prop) (to : TE) (t : TA) : TE := fun σ H Q => to σ H fun x H1 => (∃ a ob xs, x = .ref a ∧ H1 a = some (.frz ob (.tup xs)) ∧ ob.dict = none) ∧ t σ H1 fun xs H2 => r x xs H2 Q
theorem pe_tm {X : Cx} {o e : Expr} {es : List Expr} {to : TE} {t : TA} {name : Str} {apos cpos : Pos} {id : String} {r : V → List V → Hp → VK → Prop} (slot : Slot "tuple" name id) (hty : typeOf (.builtin id) = pure (.type "method_descriptor")) (hm : MtR X id r) (ho : PE X o to) (ha : PA X (e :: es) t)
    (hbase : attributeBase o name X.env (eval o X.env) = eval o X.env := by rfl)
    (hfew : ((backTo cpos (starEach (e :: es) X.env)).all (fun x => !x.1) && (backToKw cpos (keywordEach [] X.env)).all (fun x => x.1.isSome)
      && decide ((e :: es).length + ([] : List Keyword).length + (if ([] : List Keyword).isEmpty then 0 else 1) < 30)) = true := by rfl)
    (hline : (apos.endLine == cpos.line) = true := by rfl) (hs : starEach (e :: es) X.env = (false, eval e X.env) :: starEach es X.env := by rfl) (hplain : (backTo cpos (starEach es X.env)).any (·.1) = false := by rfl) :
    PE X (.Call (.Attribute o name apos) (e :: es) [] cpos) (tTM r to t) := by
  refine ⟨fun pins s σ H Q I h => ?_⟩
  refine wpAny_Call_method_late hbase hfew hline rfl (thn (ho.run pins s σ H _ I h) fun v s1 ⟨x, H1, I1, r1, ty, q1⟩ => ?_)
  obtain ⟨a, ob, xs, rfl, hf, hd⟩ := ty
  cases r1
  obtain ⟨hg, hz, its, rv, o', ho', hc, _⟩ := (show ObjOk X.prog X.w H1 s1.heap a (.frz ob (.tup xs)) from I1.hok a _ hf)
  have hc' : ob.cls = .type "tuple" := by rw [hg] at ho'; cases ho'; exact hc
  refine ⟨"tuple", id, PySem.F.plainAttrs_tuple, slot, hty, ⟨ob, hg, hc'⟩, fun b e => by cases e; exact ⟨ob, hg, hd⟩, ?_⟩
  have hA := ha.run cpos pins s1 σ H1 _ I1 q1
  rw [hs] at hA ⊢
  refine Calls.callWith_builtin (by show (false || (backTo cpos (starEach es X.env)).any (·.1)) = false; rw [hplain] <;> rfl) (Calls.evalArgs_plain ?_)
  exact thn hA fun us s2 ⟨vs, H2, I2, r2, q2⟩ => hm pins s2 σ H2 (.ref a) vs (.ref a) us Q I2 rfl r2 q2

/-! ### places in the text -/
def xAsg : Stmt → Expr
  | .Assign _ e _ => e
  | _ => .Constant .none 0 ⟨0, 0, 0, 0⟩
def xArg (i : Nat) : Expr → Expr
  | .Call _ as _ _ => as.getD i (.Constant .none 0 ⟨0, 0, 0, 0⟩)
  | _ => .Constant .none 0 ⟨0, 0, 0, 0⟩
def xLcSc : Expr → Scope
  | .ListComp _ _ sc _ => sc
  | _ => { kind := .function, names := [], isGenerator := false, isCoroutine := false }
/-! ### readings are monotone -/
theorem mono_pair {K : PySem.W.Frag} {n i j : Nat} (x : V) (σ' : L2.St) (H' : Hp) (Q Q' : L2.St → Hp → Prop) (h : ∀ a b, Q a b → Q' a b) (e : gTup K n (gCons (gName i) (gCons (gName j) gNil)) x σ' H' Q) : gTup K n (gCons (gName i) (gCons (gName j) gNil)) x σ' H' Q' := by
  obtain ⟨a, xs, e1, e2, e3, v, r, e4, v', r', e5, e6, q⟩ := e
  exact ⟨a, xs, e1, e2, e3, v, r, e4, v', r', e5, e6, h _ _ q⟩

section
variable {X : Cx} {K : PySem.W.Frag}
theorem k_piL {tg l : Expr} {tl : TE} (hK : X.K = K) (hl : PE X l tl) : PI X tg l (iList K tl) := by subst hK; exact pi_list hl
theorem k_piT {tg l : Expr} {tl : TE} (hK : X.K = K) (hl : PE X l tl) : PI X tg l (iTup K tl) := by subst hK; exact pi_tup hl
theorem k_pgT2 {x y : Str} {px py : Pos} {k : Nat} {pos : Pos} {t1 t2 : TG} (hK : X.K = K) (hc : X.calm = true) (h1 : PG X (.Name x px) t1) (h2 : PG X (.Name y py) t2) : PG X (.Tuple [.Name x px, .Name y py] k pos) (gTup K 2 (gCons t1 (gCons t2 gNil))) := by
  subst hK
  exact pg_tup hc (pgs_cons h1 (pgs_cons h2 pgs_nil))
end
end MB

set_option maxHeartbeats 4000000
namespace MB
open PySem PySem.Spec PyProof.Rows L2

/-! ### heaps -/
theorem same_upd {H : Hp} {p : Addr} {o : HO} (h : H p = none) : Same H (upd H p o) := fun b x e => by
  rw [upd_ne (ne_of_none e h)]
  exact e
/-- an object that was not tracked may change -/
theorem Same.mut {H H' : Hp} {p : Addr} {o : HO} (s : Same H H') (h : H p = none) : Same H (upd H' p o) := fun b x e => by
  rw [upd_ne (ne_of_none e h)]
  exact s _ _ e
theorem Same.tup {K : PySem.W.Frag} {H H' : Hp} {a : Addr} {xs : List V} (e : Same H H') (h : SqT K H a xs) : SqT K H' a xs := by
  rcases h with (h | ⟨o, h⟩) | h
  · exact .inl (.inl (e _ _ h))
  · exact .inl (.inr ⟨o, e _ _ h⟩)
  · exact .inr h
theorem Same.tupF {K : PySem.W.Frag} {H H' : Hp} {a : Addr} {o : Obj} {xs : List V} (e : Same H H') (h : H a = some (.frz o (.tup xs))) : SqT K H' a xs := .inl (.inr ⟨o, e _ _ h⟩)
theorem Dp.same {K : PySem.W.Frag} {H H' : Hp} (e : Same H H') : ∀ {v : V} {d : PyData}, Dp K H v d → Dp K H' v d := by
  intro v d h
  refine Dp.rec (motive_1 := fun v d _ => Dp K H' v d) (motive_2 := fun vs ds _ => DpAll K H' vs ds) ?_ ?_ ?_ ?_ ?_ ?_ ?_ ?_ h
  · exact .non
  · intro b; exact .bl b
  · intro i; exact .int i
  · intro x; exact .str x
  · intro a xs ds hs _ ih; exact .lst (e.seq hs) ih
  · intro a xs ds hs _ ih; exact .tup (Same.tup e hs) ih
  · exact .nil
  · intro v vs d ds _ _ h1 h2; exact .cons h1 h2
theorem DpAll.get {K : PySem.W.Frag} {H : Hp} : ∀ {vs : List V} {ds : List PyData}, DpAll K H vs ds → ∀ {i : Nat} {d : PyData}, ds[i]? = some d → ∃ v, vs[i]? = some v ∧ Dp K H v d
  | _, _, .nil, i, d, h => by simp at h
  | _, _, .cons a b, 0, d, h => by
    simp at h; subst h
    exact ⟨_, rfl, a⟩
  | _, _, .cons a b, i + 1, d, h => by
    obtain ⟨v, h1, h2⟩ := DpAll.get b (i := i) (d := d) (by simpa using h)
    exact ⟨v, by simpa using h1, h2⟩
theorem DpAll.len {K : PySem.W.Frag} {H : Hp} : ∀ {vs : List V} {ds : List PyData}, DpAll K H vs ds → vs.length = ds.length
  | _, _, .nil => rfl
  | _, _, .cons a b => by simp [DpAll.len b]
theorem DpAll.take {K : PySem.W.Frag} {H : Hp} : ∀ {vs : List V} {ds : List PyData} (n : Nat), DpAll K H vs ds → DpAll K H (vs.take n) (ds.take n)
  | _, _, 0, _ => .nil
  | _, _, _ + 1, .nil => .nil
  | _, _, n + 1, .cons a b => .cons a (DpAll.take n b)
theorem DpAll.append {K : PySem.W.Frag} {H : Hp} : ∀ {vs ws : List V} {ds es : List PyData}, DpAll K H vs ds → DpAll K H ws es → DpAll K H (vs ++ ws) (ds ++ es)
  | _, _, _, _, .nil, s => s
  | _, _, _, _, .cons a b, s => .cons a (DpAll.append b s)
theorem DpAll.same {K : PySem.W.Frag} {H H' : Hp} (e : Same H H') : ∀ {vs : List V} {ds : List PyData}, DpAll K H vs ds → DpAll K H' vs ds
  | _, _, .nil => .nil
  | _, _, .cons a b => .cons (Dp.same e a) (DpAll.same e b)
theorem dp_ints {K : PySem.W.Frag} {H : Hp} : ∀ ns : List Int, DpAll K H (ns.map V.int) (ns.map PyData.int)
  | [] => .nil
  | n :: ns => .cons (.int n) (dp_ints ns)
theorem ty_tup {K : PySem.W.Frag} {H : Hp} {a : Addr} {xs : List V} (h : SqT K H a xs) : TyX K H (.ref a) (.type "tuple") := by
  rcases h with (h | ⟨o, h⟩) | ⟨o, its, n, h, hc, _⟩
  · exact .base (.tup h)
  · exact .fTuple h
  · exact .kTuple h hc

/-! ### lists of numbers -/
def vi (p : List Nat) : List V := p.map fun (m : Nat) => V.int (m : Int)
def ci (p : List Nat) : List Int := p.map fun (m : Nat) => (m : Int)
theorem vi_ci (p : List Nat) : vi p = (ci p).map V.int := by simp [vi, ci]
theorem vi_len (p : List Nat) : (vi p).length = p.length := by simp [vi]
theorem vi_get {p : List Nat} {i m : Nat} (h : p[i]? = some m) : (vi p)[i]? = some (.int (m : Int)) := by simp [vi, h]
theorem vi_app (p q : List Nat) : vi (p ++ q) = vi p ++ vi q := by simp [vi]
theorem at_vi {p : List Nat} {i m : Nat} (h : p[i]? = some m) : atI (vi p) (i : Int) = some (.int (m : Int)) := atI_nat (vi_get h)
theorem sz60 {n : Nat} (h : n ≤ 100000) : n ≤ sizeLine := Nat.le_trans h (by decide)
theorem sz61 {n : Nat} (h : n ≤ 100000) : n < sizeLine := Nat.lt_of_le_of_lt h (by decide)
theorem decT {c : Prop} [Decidable c] (h : c) {A B : Prop} (a : A) : if decide c = true then A else B := by
  rw [if_pos (decide_eq_true h)]; exact a
theorem decF {c : Prop} [Decidable c] (h : ¬ c) {A B : Prop} (b : B) : if decide c = true then A else B := by
  rw [if_neg (by simp [h])]; exact b

/-! ### data of tuples: no list within -/
inductive Tf : PyData → Prop
  | non : Tf .none
  | bl (b : Bool) : Tf (.bool b)
  | int (i : Int) : Tf (.int i)
  | str (x : Str) : Tf (.str x)
  | tup {ds : List PyData} : (∀ d, d ∈ ds → Tf d) → Tf (.tuple ds)
theorem Tf.items {ds : List PyData} (h : Tf (.tuple ds)) : ∀ d, d ∈ ds → Tf d := by
  cases h with
  | tup h => exact h
theorem tf_ints (ns : List Int) : ∀ d, d ∈ ns.map PyData.int → Tf d := fun d h => by
  obtain ⟨i, _, rfl⟩ := List.mem_map.mp h
  exact .int i
/-- all tuples stay -/
def Keep (K : PySem.W.Frag) (H H' : Hp) : Prop := ∀ a xs, SqT K H a xs → SqT K H' a xs
theorem Keep.of {K : PySem.W.Frag} {H H' : Hp} (s : Same H H') : Keep K H H' := fun _ _ h => Same.tup s h
theorem Keep.trans {K : PySem.W.Frag} {H H1 H2 : Hp} (a : Keep K H H1) (b : Keep K H1 H2) : Keep K H H2 := fun _ _ h => b _ _ (a _ _ h)
theorem Keep.refl {K : PySem.W.Frag} {H : Hp} : Keep K H H := fun _ _ h => h
/-- all but the list at l stay -/
def But (l : Addr) (H H' : Hp) : Prop := ∀ b o, b ≠ l → H b = some o → H' b = some o
theorem But.refl {l : Addr} {H : Hp} : But l H H := fun _ _ _ h => h
theorem But.trans {l : Addr} {H H1 H2 : Hp} (a : But l H H1) (b : But l H1 H2) : But l H H2 := fun c o n h => b c o n (a c o n h)
theorem But.of {l : Addr} {H H' : Hp} (s : Same H H') : But l H H' := fun c o _ h => s c o h
theorem But.upd {l : Addr} {H : Hp} {o : HO} : But l H (L2.upd H l o) := fun c u n h => by rw [upd_ne n]; exact h
theorem But.keep {K : PySem.W.Frag} {l : Addr} {H H' : Hp} {ys : List V} (s : But l H H') (hl : H l = some (.lst ys)) : Keep K H H' := fun a xs h => by
  rcases h with (h | ⟨o, h⟩) | h
  · exact .inl (.inl (s _ _ (fun e => by rw [e, hl] at h; cases h) h))
  · exact .inl (.inr ⟨o, s _ _ (fun e => by rw [e, hl] at h; cases h) h⟩)
  · exact .inr h
theorem But.same {l : Addr} {H0 H H' : Hp} (s : Same H0 H) (b : But l H H') (n : H0 l = none) : Same H0 H' := fun c o e => b c o (ne_of_none e n) (s c o e)
theorem Dp.keep {K : PySem.W.Frag} {H H' : Hp} (e : Keep K H H') : ∀ {v : V} {d : PyData}, Tf d → Dp K H v d → Dp K H' v d := by
  intro v d t h
  refine Dp.rec (motive_1 := fun v d _ => Tf d → Dp K H' v d) (motive_2 := fun vs ds _ => (∀ d, d ∈ ds → Tf d) → DpAll K H' vs ds) ?_ ?_ ?_ ?_ ?_ ?_ ?_ ?_ h t
  · intro _; exact .non
  · intro b _; exact .bl b
  · intro i _; exact .int i
  · intro x _; exact .str x
  · intro a xs ds hs _ ih t; cases t
  · intro a xs ds hs _ ih t; exact .tup (e _ _ hs) (ih t.items)
  · intro _; exact .nil
  · intro v vs d ds _ _ h1 h2 t; exact .cons (h1 (t _ (List.mem_cons_self ..))) (h2 fun d hd => t d (List.mem_cons_of_mem _ hd))
theorem DpAll.keep {K : PySem.W.Frag} {H H' : Hp} (e : Keep K H H') : ∀ {vs : List V} {ds : List PyData}, (∀ d, d ∈ ds → Tf d) → DpAll K H vs ds → DpAll K H' vs ds
  | _, _, _, .nil => .nil
  | _, _, t, .cons a b => .cons (Dp.keep e (t _ (List.mem_cons_self ..)) a) (DpAll.keep e (fun d hd => t d (List.mem_cons_of_mem _ hd)) b)
theorem dp_ints_inv {K : PySem.W.Frag} {H : Hp} : ∀ {ns : List Int} {vs : List V}, DpAll K H vs (ns.map PyData.int) → vs = ns.map V.int
  | [], _, .nil => rfl
  | n :: ns, _, .cons a b => by
    cases a
    rw [dp_ints_inv b]
    rfl
theorem Dp.tupInv {K : PySem.W.Frag} {H : Hp} {v : V} {ds : List PyData} (h : Dp K H v (.tuple ds)) : ∃ a xs, v = .ref a ∧ SqT K H a xs ∧ DpAll K H xs ds := by
  cases h with
  | tup h1 h2 => exact ⟨_, _, rfl, h1, h2⟩
theorem Dp.intsInv {K : PySem.W.Frag} {H : Hp} {v : V} {ns : List Int} (h : Dp K H v (.tuple (ns.map PyData.int))) : ∃ a, v = .ref a ∧ SqT K H a (ns.map V.int) := by
  obtain ⟨a, xs, e, h1, h2⟩ := Dp.tupInv h
  rw [dp_ints_inv h2] at h1
  exact ⟨a, e, h1⟩

/-! ### a comprehension that gives an item at each turn -/
theorem lc_all {K : PySem.W.Frag} {J : It} {n : Nat} {G : Hp → Prop} {Y : Nat → Hp → V → Hp → Prop} (w : Walk J n G Y) {g : TG} {tt : TT} {te : TE} {vs : List Nat} {σ : L2.St} {H1 : Hp} {D : Addr} {Qd : Hp → Prop}
    (ds : List PyData) (hl : ds.length = n) (ht : ∀ d, d ∈ ds → Tf d) (hn : n ≤ 1000) (hD : H1 D = none) (hG : ∀ H, Same H1 H → G H)
    (hs : ∀ i x H H', i < n → Same H1 H → Y i H x H' → ∀ d, ds[i]? = some d → ∀ R : V → Hp → Prop, (∀ y H4, Same H H4 → Dp K H4 y d → R y H4) →
      g x (wipe σ vs) H' fun σ2 H2 => wipe σ2 vs = wipe σ vs ∧ tt σ2 H2 fun b H3 => b = true ∧ te σ2 H3 R)
    (hd : ∀ H acc, Same H1 H → H D = some (.lst acc) → DpAll K H acc ds → Qd H)
    (mg : ∀ x σ' H' (Q Q' : L2.St → Hp → Prop), (∀ a b, Q a b → Q' a b) → g x σ' H' Q → g x σ' H' Q') (mt : ∀ σ' H' (Q Q' : Bool → Hp → Prop), (∀ a b, Q a b → Q' a b) → tt σ' H' Q → tt σ' H' Q') :
    ∃ W : Nat → Nat → Hp → Prop, (∃ m, W 0 m (upd H1 D (.lst []))) ∧ ∀ i m H, W i m H →
      (J.stop i H ∧ Qd H) ∨ (J.go i H ∧ ∃ Nx : Hp → Prop, (∀ H', Nx H' → ∃ m', m' < m ∧ W (i + 1) m' H') ∧ ∀ x H', J.yld i H x H' → g x (wipe σ vs) H' fun σ2 H2 => wipe σ2 vs = wipe σ vs ∧ tt σ2 H2 fun b H3 =>
        if b = true then te σ2 H3 fun y H4 => ∃ acc, H4 D = some (.lst acc) ∧ acc.length < sizeLine ∧ Nx (upd H4 D (.lst (acc ++ [y]))) else Nx H3) := by
  refine lc_it w (fun i H => Same H1 H ∧ ∃ acc, H D = some (.lst acc) ∧ DpAll K H acc (ds.take i)) ⟨same_upd hD, [], upd_same, .nil⟩ (fun i H _ h => hG H h.1) ?_ ?_
  · rintro i x H H' hi ⟨s1, acc, ha, hA⟩ hy
    have hd' : ds[i]? = some ds[i] := List.getElem?_eq_getElem (by omega)
    have hlen := DpAll.len hA
    rw [List.length_take] at hlen
    refine mg _ _ _ _ _ ?_ (hs i x H H' hi s1 hy ds[i] hd' (fun y H4 => ∃ acc, H4 D = some (.lst acc) ∧ acc.length < sizeLine ∧ (Same H1 (upd H4 D (.lst (acc ++ [y]))) ∧ ∃ acc', (upd H4 D (.lst (acc ++ [y]))) D = some (.lst acc') ∧ DpAll K (upd H4 D (.lst (acc ++ [y]))) acc' (ds.take (i + 1)))) ?_)
    · rintro σ2 H2 ⟨h1, h2⟩
      refine ⟨h1, mt _ _ _ _ ?_ h2⟩
      rintro b H3 ⟨rfl, h3⟩
      exact iteT h3
    · intro y H4 s4 hy4
      refine ⟨acc, s4 _ _ ha, sz61 (by omega), Same.mut (s1.trans s4) hD, acc ++ [y], upd_same, ?_⟩
      have kp : Keep K H4 (upd H4 D (.lst (acc ++ [y]))) := But.keep But.upd (s4 _ _ ha)
      rw [List.take_add_one, hd']
      refine DpAll.keep kp (fun d h => ?_) (DpAll.append (DpAll.same s4 hA) (.cons hy4 .nil))
      rcases List.mem_append.mp h with h | h
      · exact ht d (List.mem_of_mem_take h)
      · have e : d = ds[i] := by simpa using h
        rw [e]; exact ht _ (List.getElem_mem ..)
  · rintro H ⟨s1, acc, ha, hA⟩
    rw [List.take_of_length_le (by omega)] at hA
    exact hd H acc s1 ha hA

/-! ### tuples cut and joined -/
theorem cut_to {xs : List V} {k : Nat} (h : k ≤ xs.length) : cutV xs none (some (k : Int)) = xs.take k := by
  unfold cutV
  rw [HT.sIx_none, HT.sIx_nat, Nat.min_eq_left h]
  simp
theorem cut_from {xs : List V} {k : Nat} (h : k ≤ xs.length) : cutV xs (some (k : Int)) none = xs.drop k := by
  unfold cutV
  rw [HT.sIx_none, HT.sIx_nat, Nat.min_eq_left h]
  rw [List.take_of_length_le (by rw [List.length_drop]; omega)]
theorem sl_read {K : PySem.W.Frag} {H : Hp} {a : Addr} {xs : List V} {lo hi : Option Int} {Q : VK} (h : SqT K H a xs) (q : ∀ p H', Same H H' → SqT K H' p (cutV xs lo hi) → Q (.ref p) H') : rSlA K (.ref a) lo hi H Q := by
  refine ⟨a, xs, rfl, h, fun e => q a H (Same.refl H) ?_, fun _ p hp => q p _ (same_upd hp) (.inl (.inl upd_same))⟩
  unfold cutV
  rw [e.1, e.2]
  simpa using h
theorem cat_read {K : PySem.W.Frag} {H : Hp} {a b : Addr} {xs ys : List V} {Q : VK} (ha : SqT K H a xs) (hb : SqT K H b ys) (hz : xs.length + ys.length ≤ 100000) (q : ∀ p H', Same H H' → SqT K H' p (xs ++ ys) → Q (.ref p) H') : rCatA K (.ref a) (.ref b) H Q := by
  refine ⟨a, b, xs, ys, rfl, rfl, ha, hb, sz60 hz, fun e => q b H (Same.refl H) ?_, fun _ e => q a H (Same.refl H) ?_, fun _ _ p hp => q p _ (same_upd hp) (.inl (.inl upd_same))⟩
  · rw [e]; exact hb
  · rw [e, List.append_nil]; exact ha
theorem DpAll.snoc {K : PySem.W.Frag} {H : Hp} : ∀ {vs : List V} {ds : List PyData} {d : PyData}, DpAll K H vs (ds ++ [d]) → ∃ us v, vs = us ++ [v] ∧ DpAll K H us ds ∧ Dp K H v d
  | _, [], _, .cons a .nil => ⟨[], _, rfl, .nil, a⟩
  | _, _ :: ds, _, .cons a b => by
    obtain ⟨us, v, e, h1, h2⟩ := DpAll.snoc b
    exact ⟨_ :: us, v, by rw [e]; rfl, .cons a h1, h2⟩
theorem ixN_of {n j : Nat} (hj : j < n) : ixN n (j : Int) = some j := by
  unfold ixN
  rw [if_pos (by omega), if_pos (by omega)]
  simp
theorem vi_set (c : List Nat) (k v : Nat) : (vi c).set k (.int (v : Int)) = vi (c.set k v) := by
  unfold vi
  rw [List.map_set]
theorem vi_rep (n v : Nat) : vi (List.replicate n v) = List.replicate n (.int (v : Int)) := by simp [vi]

/-! ### [x for x in range(lo, hi) if ..] -/
theorem lc_fil {lo : Int} {n j : Nat} {vs : List Nat} {σ : L2.St} {H1 : Hp} {D : Addr} {Qd : Hp → Prop} {tt : TT} (f : Nat → Bool) (hn : n ≤ 1000) (hD : H1 D = none)
    (hw : ∀ x, wipe ((wipe σ vs).set j (some x)) vs = wipe σ vs) (hj : ∀ x : V, ((wipe σ vs).set j (some x))[j]? = some (some x))
    (ht : ∀ (i : Nat) H (Q : Bool → Hp → Prop), i < n → Same H1 H → Q (f i) H → tt ((wipe σ vs).set j (some (.int (lo + (i : Nat))))) H Q)
    (hd : ∀ H, Same H1 H → H D = some (.lst (((List.range n).filter f).map fun (i : Nat) => V.int (lo + (i : Nat)))) → Qd H) :
    ∃ W : Nat → Nat → Hp → Prop, (∃ m, W 0 m (upd H1 D (.lst []))) ∧ ∀ i m H, W i m H →
      ((Itr lo n).stop i H ∧ Qd H) ∨ ((Itr lo n).go i H ∧ ∃ Nx : Hp → Prop, (∀ H', Nx H' → ∃ m', m' < m ∧ W (i + 1) m' H') ∧ ∀ x H', (Itr lo n).yld i H x H' → gName j x (wipe σ vs) H' fun σ2 H2 => wipe σ2 vs = wipe σ vs ∧ tt σ2 H2 fun b H3 =>
        if b = true then tVar j σ2 H3 fun y H4 => ∃ acc, H4 D = some (.lst acc) ∧ acc.length < sizeLine ∧ Nx (upd H4 D (.lst (acc ++ [y]))) else Nx H3) := by
  refine lc_range (lo := lo) (n := n) (fun i H => Same H1 H ∧ H D = some (.lst (((List.range i).filter f).map fun (i : Nat) => V.int (lo + (i : Nat))))) ⟨same_upd hD, upd_same⟩ ?_ ?_
  · rintro i H hi ⟨s1, h1⟩
    refine ⟨hw _, ht i H _ hi s1 ?_⟩
    have hlen : (((List.range i).filter f).map fun (i : Nat) => V.int (lo + (i : Nat))).length ≤ i := by
      rw [List.length_map]
      have := List.length_filter_le f (List.range i)
      rw [List.length_range] at this
      exact this
    by_cases hf : f i = true
    · rw [hf]
      refine iteT ⟨_, hj _, _, h1, sz61 (by omega), Same.mut s1 hD, ?_⟩
      rw [List.range_succ, List.filter_append, List.map_append]
      simp only [List.filter_cons, hf, if_true, List.filter_nil, List.map_cons, List.map_nil]
      exact upd_same
    · have hf' : f i = false := by simpa using hf
      rw [hf']
      refine iteF ⟨s1, ?_⟩
      rw [List.range_succ, List.filter_append, List.map_append]
      simpa [hf'] using h1
  · rintro H ⟨s1, h1⟩
    exact hd H s1 h1
theorem iteB1 {b : Bool} {A B : Prop} (h : b = true) (a : A) : if b = true then A else B := by rw [if_pos h]; exact a
theorem iteB0 {b : Bool} {A B : Prop} (h : b = false) (a : B) : if b = true then A else B := by rw [if_neg (by rw [h]; decide)]; exact a

/-! ### deep comparisons -/
theorem lay_all : ∀ {ds : List PyData}, (∀ d, d ∈ ds → d.canLay0 = true) → PyData.canLayAll0 ds = true
  | [], _ => by simp [PyData.canLayAll0]
  | d :: ds, h => by
    simp only [PyData.canLayAll0]
    rw [h d (List.mem_cons_self ..), lay_all fun e he => h e (List.mem_cons_of_mem _ he)]; rfl
theorem dep_all {k : Nat} : ∀ {ds : List PyData}, (∀ d, d ∈ ds → d.depth ≤ k) → PyData.depthAll ds ≤ k
  | [], _ => by simp [PyData.depthAll]
  | d :: ds, h => by
    simp only [PyData.depthAll]
    have h1 := h d (List.mem_cons_self ..)
    have h2 := dep_all (k := k) fun e he => h e (List.mem_cons_of_mem _ he)
    omega
/-- plain data of at most so many levels -/
def Sh (k : Nat) (d : PyData) : Prop := d.canLay0 = true ∧ d.depth ≤ k
theorem Sh.shaped {k : Nat} {d : PyData} (h : Sh k d) (hk : k ≤ 64) : SeqAt.shaped d = true := by
  unfold SeqAt.shaped
  rw [h.1, decide_eq_true (by have := h.2; omega)]; rfl
theorem Sh.tup {k : Nat} {ds : List PyData} (h : ∀ d, d ∈ ds → Sh k d) : Sh (k + 1) (.tuple ds) :=
  ⟨by simp only [PyData.canLay0]; exact lay_all fun d hd => (h d hd).1, by simp only [PyData.depth]; have := dep_all (k := k) (ds := ds) fun d hd => (h d hd).2; omega⟩
theorem Sh.lst {k : Nat} {ds : List PyData} (h : ∀ d, d ∈ ds → Sh k d) : Sh (k + 1) (.list ds) :=
  ⟨by simp only [PyData.canLay0]; exact lay_all fun d hd => (h d hd).1, by simp only [PyData.depth]; have := dep_all (k := k) (ds := ds) fun d hd => (h d hd).2; omega⟩
theorem Sh.int (i : Int) {k : Nat} : Sh k (.int i) := ⟨by simp [PyData.canLay0], by simp [PyData.depth]⟩
theorem Sh.ints {k : Nat} (ns : List Int) : ∀ d, d ∈ ns.map PyData.int → Sh k d := fun d h => by
  obtain ⟨i, _, rfl⟩ := List.mem_map.mp h
  exact .int i
theorem eq_data {K : PySem.W.Frag} {H : Hp} {x y : V} {d : PyData} {Q : VK} {k : Nat} (hx : Dp K H x d) (hy : Dp K H y d) (hs : Sh k d) (hk : k ≤ 64) (q : Q (.bl true) H) : rEqD K x y H Q :=
  ⟨d, d, hx, hy, hs.shaped hk, hs.shaped hk, by rw [SeqAt.eqv_refl d hs.1]; exact q⟩
theorem ne_data {K : PySem.W.Frag} {H : Hp} {x y : V} {d : PyData} {Q : VK} {k : Nat} (hx : Dp K H x d) (hy : Dp K H y d) (hs : Sh k d) (hk : k ≤ 64) (q : Q (.bl false) H) : rNeD K x y H Q :=
  ⟨d, d, hx, hy, hs.shaped hk, hs.shaped hk, by rw [SeqAt.eqv_refl d hs.1]; exact q⟩
theorem dp_tup {K : PySem.W.Frag} {H : Hp} {a : Addr} {ns : List Int} (h : SqT K H a (ns.map V.int)) : Dp K H (.ref a) (.tuple (ns.map PyData.int)) := .tup h (dp_ints ns)
theorem ne_ints {K : PySem.W.Frag} {H : Hp} {a b : Addr} {ns : List Int} {Q : VK} (ha : SqT K H a (ns.map V.int)) (hb : SqT K H b (ns.map V.int)) (q : Q (.bl false) H) : rNeD K (.ref a) (.ref b) H Q :=
  ne_data (dp_tup ha) (dp_tup hb) (Sh.tup (k := 0) (Sh.ints ns)) (by decide) q
end MB

set_option maxHeartbeats 4000000
namespace MB
open PySem PySem.Spec PyProof.Rows L2

/-! ### a def called where no repr is under way -/
structure FnG (P : Program) (w : World) (K : PySem.W.Frag) (mg : Str → Option Value) (base : Heap) (CX : CXT) (k : Nat) (f : Addr) (fd : FuncData) (ps : List Str) (sp : Sp) : Prop where
  len : ∀ vs H Q E, sp vs H Q E → vs.length = ps.length
  run : ∀ (A : Around), A.guards = some [] → Room k A → ∀ (outer : List Env) (s : Shared) (H : Hp) (args : Args) (us : List Value) (vs : List V) (Q : VK) (E : XK),
    Env0 P w K mg base A outer s H → BindsTo s fd args (ps.zip us) → Vals vs us → sp vs H Q E → codeAny (model P w) A (.call (.ref f) args) (CR CX outer P w H s Q E) s
section
variable {P : Program} {w : World} {K : PySem.W.Frag} {mg : Str → Option Value} {base : Heap} {CX : CXT} {k : Nat} {f : Addr} {fd : FuncData} {ps : List Str} {sp : Sp}
theorem FnG.of (F : FnOk P w K mg base CX k f fd ps sp) : FnG P w K mg base CX k f fd ps sp :=
  ⟨F.len, fun A _ hr outer s H args us vs Q E => F.run A outer s H args us vs Q E hr⟩
theorem deeper_guards {A : Around} {env : Env} (h : A.guards = some []) : (A.deeper env).guards = some [] := h
theorem fnG_of {name qual : Str} {params : Arguments} {body : List Stmt} {scope : Scope} {dV kV doc pm cdv ct oc : Value} {an od : Option Addr} {osl : Array (Option Value)} {N : List Str}
    (lk : K.lookup f = some ⟨oc, od, .func (PySem.W.fnOf name qual params body scope dV kV doc pm an cdv ct), osl⟩) (hcd : PySem.W.codeIn K cdv qual = true) (S : FnScope N ps scope)
    (len : ∀ vs H Q E, sp vs H Q E → vs.length = ps.length)
    (hbody : ∀ (A : Around), A.guards = some [] → ∀ (outer : List Env) (s : Shared) (H : Hp) (vs : List V) (Q : VK) (E : XK), Room k (A.deeper (envOfC qual scope s.heap.objs.size f cdv)) → sp vs H Q E →
      ∃ t, PSs (cxOf CX P w K mg base N qual scope f cdv A outer s H E) body t ∧ t { nx := fun _ H' => Q .non H', rt := Q } (start N vs) H) :
    FnG P w K mg base CX (k + 1) f (PySem.W.fnOf name qual params body scope dV kV doc pm an cdv ct) ps sp := by
  refine ⟨len, fun A hgd hr outer s H args us vs Q E e0 hb r hsp => ?_⟩
  have kept : ∀ b o, base.get? b = some o → s.heap.get? b = some o := fun b o e => (e0.bs b o e).1
  have KX : K.In s.heap := e0.mod.kin.keeps kept
  obtain ⟨t, ht, hq⟩ := hbody A hgd outer s H vs Q E (hr.deeper _) hsp
  have par : ∀ y ∈ ps.zip us, scope.names.lookup y.1 = some .local ∨ (scope.names.lookup y.1 = some .cell ∧ ((cellsFrom (s.heap.objs.size + 1) scope.names []).lookup y.1).isSome = true) := by
    rintro ⟨n, v⟩ hy
    exact (S.par n (List.of_mem_zip hy).1).imp id fun z => ⟨z, PySem.W.cellsFrom_some _ _ _ (.inl z)⟩
  refine codeAny_call_function hr.depth (KX _ _ lk) rfl S.co S.gen rfl (PySem.W.codeRec_of KX hcd) (hb _ _ _ _ (wpAny_newFunctionEnv_cells S.kind par fun env he s1 x => ?_))
  subst he
  refine ⟨(e0.mod.nolimit.keeps kept).keeps x.toInCall.keep, codeAny_func (wpAny_mono (ht.run [] s1 (start N vs) H _ (inv_start S hr.hd e0 (len _ _ _ _ hsp) r x) hq) (fun fl s' hs => ?_) fun e s' hs => hs)⟩
  rcases fl with _ | _ | _ | u
  · obtain ⟨σ', H', J, q⟩ := hs
    exact ⟨V.non, H', J.os, J.bare, J.base, J.hok, rfl, q⟩
  · exact (let ⟨_, _, _, q⟩ := hs; False.elim q)
  · exact (let ⟨_, _, _, q⟩ := hs; False.elim q)
  · obtain ⟨v, σ', H', J, rv, q⟩ := hs
    exact ⟨v, H', J.os, J.bare, J.base, J.hok, rv, q⟩
theorem Fun.okG {x qual : Str} {st : Stmt} {N : List Str} (F : L2.Fun K x qual st f fd) (S : FnScope N ps (defScope st)) (len : ∀ vs H Q E, sp vs H Q E → vs.length = ps.length)
    (hbody : ∀ (cdv : Value) (A : Around), A.guards = some [] → ∀ (outer : List Env) (s : Shared) (H : Hp) (vs : List V) (Q : VK) (E : XK), Room k (A.deeper (envOfC qual (defScope st) s.heap.objs.size f cdv)) → sp vs H Q E →
      ∃ t, PSs (cxOf CX0 P w K mg base N qual (defScope st) f cdv A outer s H E).nox (defBody st) t ∧ t { nx := fun _ H' => Q .non H', rt := Q } (start N vs) H) : FnG P w K mg base CX0 (k + 1) f fd ps sp := by
  obtain ⟨oc, od, kV, doc, pm, an, cdv, ct, osl, rfl, lk, hcd⟩ := F.ex
  exact fnG_of lk hcd S len fun A hgd outer s H vs Q E hr hsp => let ⟨t, h, q⟩ := hbody cdv A hgd outer s H vs Q E hr hsp; ⟨t, h.nox, q⟩
end
section
variable {X : Cx} {CX : CXT} {k : Nat} {f : Addr} {fd : FuncData} {ps : List Str} {sp : Sp} {ds : List Value} {dvs : List V} {E : XK} {x : Str} {p pos : Pos} {e : Expr} {es : List Expr} {t : TA}
theorem pe_callG (F : FnG X.prog X.w X.K X.mg X.base CX k f fd ps sp) (hgd : X.A.guards = some []) (hr : Room k X.A) (hg : Gl X x) (hm : X.mg x = some (.ref f)) (hk : PySem.W.keepIn X.K (.ref f) = true) (hb : Binds X.K fd ps ds) (hd : Vals dvs ds) (hx : Passes CX X E)
    (ha : PA X (e :: es) t) (hdb : (x == ("__debug__" : Str)) = false := by decide) (he : starEach (e :: es) X.env = (false, eval e X.env) :: starEach es X.env := by rfl) (hpl : (backTo pos (starEach es X.env)).any (·.1) = false := by rfl) :
    PE X (.Call (.Name x p) (e :: es) [] pos) (tCall sp dvs E t) := by
  refine ⟨fun pins s σ H Q I h => wpAny_Call_Name_kw (ld_glob I hg hm (PySem.W.callWith_K (h₀ := X.base) I.ok.mod.kin hk (thn (ha.run pos pins s σ H _ I h) fun us s1 ⟨vs, H1, I1, r, q⟩ => ⟨I1.kIn, ?_⟩) he hpl) hdb)⟩
  have r2 : Vals (vs ++ dvs) (us ++ ds) := r.append hd
  have hl : (us ++ ds).length = ps.length := r2.length.symm.trans (F.len _ _ _ _ q)
  refine wpAny_call (codeAny_mono (F.run X.A hgd hr X.stack s1 H1 ⟨us, []⟩ (us ++ ds) (vs ++ dvs) Q E I1.env0 (hb s1 us I1.kIn hl) r2 q) fun res s' hq => ?_)
  rcases res with e | fl
  · exact hx pins σ H1 s1 e s' I1 hq
  · rcases fl with _ | _ | _ | u
    · exact False.elim hq
    · exact False.elim hq
    · exact False.elim hq
    · exact I1.after hq
end

/-! ### repr of plain data -/
def rReprD (K : PySem.W.Frag) : List V → Hp → VK → Prop := fun xs H Q => ∃ (x : V) (d : PyData), xs = [x] ∧ Dp K H x d ∧ d.canLay0 = true ∧ d.showable = true ∧ d.depth ≤ 60 ∧ d.shown.length ≤ sizeLine ∧ Q (.str d.shown) H
theorem call_reprD {X : Cx} (hgd : X.A.guards = some []) (hu : X.A.units + 64 < cLine) : CallR X (.builtin "repr") (rReprD X.K) := by
  intro pins s σ H xs us Q I r h
  obtain ⟨x, d, rfl, hd, hc, hs, hdep, hz, q⟩ := h
  obtain ⟨u, rfl, rx⟩ := vals1 r
  obtain ⟨as, rd⟩ := Dp.reads I d x u hd rx
  have nd := PyData.hasDict_of_canLay d hc
  have fin : ∀ (h' : Heap) (v tk : Tok), (∀ b o, s.heap.get? b = some o → h'.get? b = some o) → EP X pins σ Q (.str d.shown v) { s with heap := h', toks := tk } := fun h' v tk hk => ⟨.str d.shown, H, I.kept hk, ⟨_, rfl⟩, q⟩
  cases rd with
  | none => exact PySem.P.repr_of_none (fin _ _ _ fun _ _ e => e)
  | bool b =>
    refine PySem.P.repr_of_bool ?_
    cases b <;> exact fin s.heap s.toks (s.toks + 1) fun _ _ e => e
  | int i t => exact PySem.P.repr_of_int (by simpa [PyData.showable] using hs) (fin s.heap s.toks (s.toks + 1) fun _ _ e => e)
  | str y t => exact PySem.P.repr_of_str (fin s.heap s.toks (s.toks + 1) fun _ _ e => e) hz
  | list h1 h2 h3 h4 => exact repr_of_reads' (.list h1 h2 h3 h4) hs (PyData.noDict_hsm nd) hgd (by omega) (fun _ _ e => e) fin hz
  | tuple h1 h2 h3 h4 => exact repr_of_reads' (.tuple h1 h2 h3 h4) hs (PyData.noDict_hsm nd) hgd (by omega) (fun _ _ e => e) fin hz
  | dict h1 h2 h3 h4 h5 => simp [PyData.canLay0] at hc

/-! ### the end: a law whose promise asks that no repr is under way -/
theorem law_callG {P : Program} {w : World} {K : PySem.W.Frag} {mg mb : Str → Option Value} {k : Nat} {fa a : Addr} {fd : FuncData} {x : Str} {sp : Sp} {s₁ : Shared} {vs : List Value} {ns : List Int}
    (KX : K.In s₁.heap) (hns : s₁.heap.Ns mainGlobals mg) (hb : s₁.heap.Ns builtinsNs mb) (hbb : ∀ x : Str, x ≠ "__name__" → mb x = bootBuiltins x) (hlim : s₁.heap.NoLimit) (hg : s₁.gens = #[])
    (ha : s₁.heap.get? a = some { cls := .type "list", data := .seq vs.toArray }) (hi : IntsAre vs ns) (hl : ns.length ≤ sizeLine) (hr : Room k callerA)
    (F : ∀ base : Heap, K.In base → base.Ns mainGlobals mg → FnG P w K mg base CX0 k fa fd [x] sp) (hbind : ∀ (s : Shared) (u : Value), BindsTo s fd ⟨[u], []⟩ [(x, u)])
    (hsp : ∀ H : Hp, SqL K H a (ns.map V.int) → sp [.ref a] H (fun v _ => v = .bl true) fun _ _ _ => False) :
    codeAny (model P w) callerA (.call (.ref fa) ⟨[.ref a], []⟩) (fun r s' => r = .ok (.ret (.bool true)) ∧ OldK s₁.heap s'.heap ∧ s'.os = s₁.os ∧ AllBare s'.gens) s₁ := by
  let oS : Obj := { cls := .type "list", data := .seq vs.toArray }
  -- the script is tracked as it stands, unless it is one of the module's own objects
  let H : Hp := fun b => if b = a ∧ K.lookup a = none then some (.frz oS (.lst (ns.map V.int))) else none
  have rv := vals_ints hi
  have Hsome : ∀ {b : Addr} {o : HO}, H b = some o → b = a ∧ K.lookup a = none ∧ o = .frz oS (.lst (ns.map V.int)) := fun {b o} e => by
    by_cases c : b = a ∧ K.lookup a = none
    · have e' := (if_pos c).symm.trans e
      exact ⟨c.1, c.2, (Option.some.inj e').symm⟩
    · have e' := (if_neg c).symm.trans e
      cases e'
  have free : ∀ {b : Addr}, (∀ z : b = a, K.lookup a ≠ none) → H b = none := fun {b} n => if_neg fun c => n c.1 c.2
  have hS : SqL K H a (ns.map V.int) := by
    cases hk : K.lookup a with
    | none => exact .inl (.inr ⟨oS, if_pos ⟨rfl, hk⟩⟩)
    | some o =>
      have e := (KX a o hk).symm.trans ha
      cases e
      exact .inr ⟨_, vs.toArray, _, hk, rfl, rfl, rfl, by rw [List.size_toArray, hi.length]; exact hl, by simpa using rv⟩
  have hok : HOk P w H s₁.heap := fun b o e => by
    obtain ⟨rfl, _, rfl⟩ := Hsome e
    exact ⟨ha, by rw [List.length_map]; exact hl, vs, _, rv, ha⟩
  have noDict : ∀ {b : Addr} {o : Obj} {es : Array DictEntry} {ep : Nat}, s₁.heap.get? b = some o → o.data = .dict es ep → H b = none := fun {b o es ep} e d => free fun z => by
    subst z
    rw [ha] at e
    cases e
    cases d
  have ns_hid : ∀ {b : Addr} {m : Str → Option Value}, s₁.heap.Ns b m → (hidT s₁.heap H).Ns b m := fun {b m} ⟨o, es, ep, e, d, r⟩ => ⟨o, es, ep, hidT_get e (noDict e d), d, r⟩
  have hKb : K.In (hidT s₁.heap H) := fun b o e => hidT_get (KX b o e) (free fun z => by subst z; rw [e]; exact fun y => nomatch y)
  have hM : Mod K mg (hidT s₁.heap H) := ⟨hKb, ns_hid hns, ⟨mb, ns_hid hb, hbb⟩, let ⟨mc, h1, h2⟩ := hlim; ⟨mc, ns_hid h1, h2⟩⟩
  have e0 : Env0 P w K mg (hidT s₁.heap H) callerA [] s₁ H := ⟨rfl, hM, fun b o e => of_hidT e, Nat.le_of_eq (hidT_size _ _), trivial, (fun b hb => absurd (show b ∈ ([] : List Addr) from hb) (by simp)), hok, .of_eq hg⟩
  refine codeAny_mono ((F _ hKb (ns_hid hns)).run callerA rfl hr [] s₁ H ⟨[.ref a], []⟩ [.ref a] [.ref a] _ _ e0 (hbind s₁ (.ref a)) (.cons rfl .nil) (hsp H hS)) fun r s' h => ?_
  rcases r with e | fl
  · exact False.elim h
  rcases fl with _ | _ | _ | u
  · exact False.elim h
  · exact False.elim h
  · exact False.elim h
  obtain ⟨v, H', os, bare, un, hok', r', q⟩ := h
  have q' : v = .bl true := q
  subst q'
  obtain rfl : u = Value.bool true := r'
  refine ⟨rfl, OldK.of_keep fun b o e => ?_, os, bare⟩
  cases hb' : H b with
  | none => exact un.keep b o e hb' (fun z => absurd (show b ∈ ([] : List Addr) from z) (by simp)) (by simp)
  | some u =>
    obtain ⟨rfl, hk, rfl⟩ := Hsome hb'
    have e2 := (hok' _ _ (un.frzs _ oS _ hb')).1
    rw [ha] at e
    cases e
    exact e2
theorem walk_ofG {l : PySem.W.OpenLaw} {n k : Nat} {q : Program} {loose : List Str} {XP : (Str → Option Value) → Heap → Prop} {YP : World → Heap → Prop} {d : DefRec} {K : Params → PySem.W.Frag} {sp : PySem.W.Frag → Sp} {x : Str}
    (hn : l.most = some n) (hn2 : n ≤ sizeLine) (hdf : d.params.defaults = []) (hr : Room k callerA)
    (hY : ∀ (w : World) (h : Heap), YP w h → (K w.params).In h)
    (F : ∀ (w : World) (mg : Str → Option Value) (fa : Addr) (h : Heap), (K w.params).In h → h.Ns mainGlobals mg → mg d.name = some (.ref fa) →
      ∃ fd : FuncData, (∀ (s : Shared) (u : Value), BindsTo s fd ⟨[u], []⟩ [(x, u)]) ∧
        ∀ base : Heap, (K w.params).In base → base.Ns mainGlobals mg → FnG l.prog w (K w.params) mg base CX0 k fa fd [x] (sp (K w.params)))
    (hsp : ∀ (K : PySem.W.Frag) (H : Hp) (a : Addr) (ns : List Int), ns.length ≤ n → SqL K H a (ns.map V.int) → sp K [.ref a] H (fun v _ => v = .bl true) fun _ _ _ => False) :
    PySem.W.WalkO q loose XP YP l.row.toRowW d [] (fun f vs => PySem.call f vs) :=
  Att.attach_call hn hdf fun w s₀ s₁ mg mb fa o pm cd doc a vs ns G Y ho hd hcd hmg hobj hints hlen hg =>
    have KX := hY w _ Y
    let ⟨fd, hb, hF⟩ := F w mg fa _ KX G.T.g hmg
    law_callG KX G.T.g G.T.b G.T.builtins G.T.nolimit hg hobj hints (Nat.le_trans hlen hn2) hr hF hb fun H hS => hsp _ H a ns hlen hS
end MB

set_option maxHeartbeats 4000000
namespace MB
open PySem PySem.Spec PyProof.Rows L2
/-- data whose repr is asked: levels, size -/
structure Rp (k n : Nat) (d : PyData) : Prop where
  sh : Sh k d
  shw : d.showable = true
  short : d.leavesShort 13 = true
  bulk : d.bulk ≤ n
theorem Rp.mono {k n m : Nat} {d : PyData} (h : Rp k n d) (e : n ≤ m) : Rp k m d := ⟨h.sh, h.shw, h.short, Nat.le_trans h.bulk e⟩
theorem Rp.int {i : Int} {k : Nat} (h : i.natAbs < 1000000) : Rp k 0 (.int i) := by
  refine ⟨.int i, ?_, ?_, by simp [PyData.bulk]⟩
  · simp only [PyData.showable]
    refine decide_eq_true ?_
    by_cases h0 : i.natAbs = 0
    · rw [h0]; decide
    · exact Nat.lt_trans ((Nat.log2_lt h0).mpr (show i.natAbs < 2 ^ 20 by omega)) (by decide)
  · simp only [PyData.leavesShort]
    refine decide_eq_true ?_
    have e := int_text_length_le10 (a := i) (k := 6) (by decide) h
    have e2 : (PyData.shown (.int i)).length = (toString i).length := by
      simp only [PyData.shown]
      exact PySem.ofString_length _
    omega
theorem rp_all {k n : Nat} : ∀ {ds : List PyData}, (∀ d, d ∈ ds → Rp k n d) → PyData.showableAll ds = true ∧ PyData.leavesShortAll 13 ds = true ∧ PyData.bulkAll ds ≤ (n + 1) * ds.length
  | [], _ => ⟨by simp [PyData.showableAll], by simp [PyData.leavesShortAll], by simp [PyData.bulkAll]⟩
  | d :: ds, h => by
    have h1 := h d (List.mem_cons_self ..)
    obtain ⟨a, b, c⟩ := rp_all fun e he => h e (List.mem_cons_of_mem _ he)
    refine ⟨by simp only [PyData.showableAll, h1.shw, a, Bool.and_self], by simp only [PyData.leavesShortAll, h1.short, b, Bool.and_self], ?_⟩
    simp only [PyData.bulkAll, List.length_cons]
    have := h1.bulk
    rw [Nat.mul_add]
    omega
theorem Rp.tup {k n m : Nat} {ds : List PyData} (h : ∀ d, d ∈ ds → Rp k n d) (hm : (n + 1) * ds.length ≤ m) : Rp (k + 1) m (.tuple ds) := by
  obtain ⟨a, b, c⟩ := rp_all h
  exact ⟨Sh.tup fun d hd => (h d hd).sh, by simp only [PyData.showable]; exact a, by simp only [PyData.leavesShort]; exact b, by simp only [PyData.bulk]; omega⟩
theorem Rp.lst {k n m : Nat} {ds : List PyData} (h : ∀ d, d ∈ ds → Rp k n d) (hm : (n + 1) * ds.length ≤ m) : Rp (k + 1) m (.list ds) := by
  obtain ⟨a, b, c⟩ := rp_all h
  exact ⟨Sh.lst fun d hd => (h d hd).sh, by simp only [PyData.showable]; exact a, by simp only [PyData.leavesShort]; exact b, by simp only [PyData.bulk]; omega⟩
theorem Rp.ints {ns : List Int} {k m : Nat} (h : ∀ i, i ∈ ns → i.natAbs < 1000000) (hm : ns.length ≤ m) : Rp (k + 1) m (.tuple (ns.map PyData.int)) :=
  Rp.tup (n := 0) (fun d hd => by obtain ⟨i, hi, rfl⟩ := List.mem_map.mp hd; exact .int (h i hi)) (by rw [List.length_map]; omega)
theorem Rp.bool {b : Bool} {k : Nat} : Rp k 0 (.bool b) := ⟨⟨by simp [PyData.canLay0], by simp [PyData.depth]⟩, by simp [PyData.showable], by simp [PyData.leavesShort], by simp [PyData.bulk]⟩
/-- repr(x), by data -/
theorem repr_read {K : PySem.W.Frag} {H : Hp} {x : V} {d : PyData} {Q : VK} {k n : Nat} (hd : Dp K H x d) (hs : Rp k n d) (hk : k ≤ 60) (hn : n ≤ 1048576) (q : Q (.str d.shown) H) : rReprD K [x] H Q :=
  ⟨x, d, rfl, hd, hs.sh.1, hs.shw, Nat.le_trans hs.sh.2 hk, PyData.shown_fits_bulk (B := 13) (by decide) (by decide) hs.short (Nat.le_trans hs.bulk (by omega)), q⟩
theorem Rp.all {k n : Nat} {d : PyData} (hs : Rp k n d) (hk : k ≤ 60) (hn : n ≤ 1048576) : d.canLay0 = true ∧ d.showable = true ∧ d.depth ≤ 60 ∧ d.shown.length ≤ sizeLine :=
  ⟨hs.sh.1, hs.shw, Nat.le_trans hs.sh.2 hk, PyData.shown_fits_bulk (B := 13) (by decide) (by decide) hs.short (Nat.le_trans hs.bulk (by omega))⟩
end MB

set_option maxHeartbeats 4000000
namespace MB
open PySem PySem.Spec PyProof.Rows L2
/-- data whose repr is asked: levels, size -/
structure RpW (k n : Nat) (d : PyData) : Prop where
  sh : Sh k d
  shw : d.showable = true
  short : d.leavesShort  75 = true
  bulk : d.bulk ≤ n
theorem RpW.mono {k n m : Nat} {d : PyData} (h : RpW k n d) (e : n ≤ m) : RpW k m d := ⟨h.sh, h.shw, h.short, Nat.le_trans h.bulk e⟩
theorem RpW.int {i : Int} {k : Nat} (h : i.natAbs < 10 ^ 70) : RpW k 0 (.int i) := by
  refine ⟨.int i, ?_, ?_, by simp [PyData.bulk]⟩
  · simp only [PyData.showable]
    refine decide_eq_true ?_
    by_cases h0 : i.natAbs = 0
    · rw [h0]; decide
    · exact Nat.lt_trans ((Nat.log2_lt h0).mpr (show i.natAbs < 2 ^ 240 by exact Nat.lt_trans h (by decide +kernel))) (by decide)
  · simp only [PyData.leavesShort]
    refine decide_eq_true ?_
    have e := int_text_length_le10 (a := i) (k := 70) (by decide) h
    have e2 : (PyData.shown (.int i)).length = (toString i).length := by
      simp only [PyData.shown]
      exact PySem.ofString_length _
    omega
theorem rpW_all {k n : Nat} : ∀ {ds : List PyData}, (∀ d, d ∈ ds → RpW k n d) → PyData.showableAll ds = true ∧ PyData.leavesShortAll  75 ds = true ∧ PyData.bulkAll ds ≤ (n + 1) * ds.length
  | [], _ => ⟨by simp [PyData.showableAll], by simp [PyData.leavesShortAll], by simp [PyData.bulkAll]⟩
  | d :: ds, h => by
    have h1 := h d (List.mem_cons_self ..)
    obtain ⟨a, b, c⟩ := rpW_all fun e he => h e (List.mem_cons_of_mem _ he)
    refine ⟨by simp only [PyData.showableAll, h1.shw, a, Bool.and_self], by simp only [PyData.leavesShortAll, h1.short, b, Bool.and_self], ?_⟩
    simp only [PyData.bulkAll, List.length_cons]
    have := h1.bulk
    rw [Nat.mul_add]
    omega
theorem RpW.tup {k n m : Nat} {ds : List PyData} (h : ∀ d, d ∈ ds → RpW k n d) (hm : (n + 1) * ds.length ≤ m) : RpW (k + 1) m (.tuple ds) := by
  obtain ⟨a, b, c⟩ := rpW_all h
  exact ⟨Sh.tup fun d hd => (h d hd).sh, by simp only [PyData.showable]; exact a, by simp only [PyData.leavesShort]; exact b, by simp only [PyData.bulk]; omega⟩
theorem RpW.lst {k n m : Nat} {ds : List PyData} (h : ∀ d, d ∈ ds → RpW k n d) (hm : (n + 1) * ds.length ≤ m) : RpW (k + 1) m (.list ds) := by
  obtain ⟨a, b, c⟩ := rpW_all h
  exact ⟨Sh.lst fun d hd => (h d hd).sh, by simp only [PyData.showable]; exact a, by simp only [PyData.leavesShort]; exact b, by simp only [PyData.bulk]; omega⟩
theorem RpW.ints {ns : List Int} {k m : Nat} (h : ∀ i, i ∈ ns → i.natAbs < 10 ^ 70) (hm : ns.length ≤ m) : RpW (k + 1) m (.tuple (ns.map PyData.int)) :=
  RpW.tup (n := 0) (fun d hd => by obtain ⟨i, hi, rfl⟩ := List.mem_map.mp hd; exact .int (h i hi)) (by rw [List.length_map]; omega)
theorem RpW.bool {b : Bool} {k : Nat} : RpW k 0 (.bool b) := ⟨⟨by simp [PyData.canLay0], by simp [PyData.depth]⟩, by simp [PyData.showable], by simp [PyData.leavesShort], by simp [PyData.bulk]⟩
theorem fits75 {d : PyData} (hl : d.leavesShort 75 = true) (hw : d.bulk ≤ 100000) : d.shown.length ≤ sizeLine := by
  have h := PyData.shown_le_bulk 75 (by decide) d hl
  have h2 : (75 + 2) * d.bulk ≤ 77 * 100000 := Nat.mul_le_mul (by omega) (by omega)
  have e : sizeLine = 16777216 := by decide
  omega
/-- repr(x), by data -/
theorem reprW_read {K : PySem.W.Frag} {H : Hp} {x : V} {d : PyData} {Q : VK} {k n : Nat} (hd : Dp K H x d) (hs : RpW k n d) (hk : k ≤ 60) (hn : n ≤ 100000) (q : Q (.str d.shown) H) : rReprD K [x] H Q :=
  ⟨x, d, rfl, hd, hs.sh.1, hs.shw, Nat.le_trans hs.sh.2 hk, fits75 hs.short (Nat.le_trans hs.bulk hn), q⟩
theorem RpW.all {k n : Nat} {d : PyData} (hs : RpW k n d) (hk : k ≤ 60) (hn : n ≤ 100000) : d.canLay0 = true ∧ d.showable = true ∧ d.depth ≤ 60 ∧ d.shown.length ≤ sizeLine :=
  ⟨hs.sh.1, hs.shw, Nat.le_trans hs.sh.2 hk, fits75 hs.short (Nat.le_trans hs.bulk hn)⟩
end MB

set_option maxHeartbeats 4000000
namespace MB
open PySem PySem.Spec PyProof.Rows L2
/-! ### data of any kind, dicts among them -/
def kD : Key → PyData
  | .inl i => .int i
  | .inr x => .str x
mutual
inductive Dq (K : PySem.W.Frag) (H : Hp) : V → PyData → Prop
  | nonq : Dq K H .non .none
  | blq (b : Bool) : Dq K H (.bl b) (.bool b)
  | intq (i : Int) : Dq K H (.int i) (.int i)
  | strq (x : Str) : Dq K H (.str x) (.str x)
  | lstq {a : Addr} {xs : List V} {ds : List PyData} : SqL K H a xs → a ≠ sysModules → DqAll K H xs ds → Dq K H (.ref a) (.list ds)
  | tupq {a : Addr} {xs : List V} {ds : List PyData} : SqT K H a xs → DqAll K H xs ds → Dq K H (.ref a) (.tuple ds)
  | dctq {a : Addr} {kvs : List (Key × V)} {des : List (PyData × PyData)} : H a = some (.dK kvs) → des.map (·.1) = kvs.map (fun p => kD p.1) → DqAll K H (kvs.map (·.2)) (des.map (·.2)) → Dq K H (.ref a) (.dict des)
inductive DqAll (K : PySem.W.Frag) (H : Hp) : List V → List PyData → Prop
  | nil : DqAll K H [] []
  | cons {v : V} {vs : List V} {d : PyData} {ds : List PyData} : Dq K H v d → DqAll K H vs ds → DqAll K H (v :: vs) (d :: ds)
end
section
variable {X : Cx} {pins : List (Addr × Obj)} {σ : L2.St} {H : Hp} {s : Shared}
theorem keys_read {h : Heap} {P : Program} {w : World} {es : List DictEntry} {vs : List (Key × Value)} (hp : Pairs (mixKind P w) es vs) : ∀ {kvs : List (Key × V)}, KV kvs vs →
    ReadsAll h (es.map (·.key)) (kvs.map fun p => kD p.1) [] ∧ Vals (kvs.map (·.2)) (es.map (·.val)) := by
  induction hp with
  | nil => intro kvs r; cases r; exact ⟨.nil, .nil⟩
  | @cons e kv es vs a b c ih =>
    intro kvs r
    cases r with
    | @cons p _ ps _ r t =>
      obtain ⟨h1, h2⟩ := ih t
      obtain ⟨r1, r2⟩ := r
      have r3 : RelV p.2 e.val := by rw [b]; exact r2
      refine ⟨?_, .cons r3 h2⟩
      have e1 : keyIs kv.1 e.key = true := a
      rw [List.map_cons, List.map_cons, r1]
      rcases keyIs_shape e1 with ⟨i, t, h3, h4⟩ | ⟨x, t, h3, h4⟩
      · rw [h3, h4]; exact ReadsAll.cons (as := []) (bs := []) (.int i t) h1
      · rw [h3, h4]; exact ReadsAll.cons (as := []) (bs := []) (.str x t) h1
theorem Dq.reads (I : Inv X pins σ H s) {d : PyData} {v : V} (hq : Dq X.K H v d) : ∀ u : Value, RelV v u → ∃ as, Reads s.heap u d as ∧ sysModules ∉ as := by
  refine Dq.rec (motive_1 := fun v d _ => ∀ u : Value, RelV v u → ∃ as, Reads s.heap u d as ∧ sysModules ∉ as) (motive_2 := fun vs ds _ => ∀ us : List Value, Vals vs us → ∃ as, ReadsAll s.heap us ds as ∧ sysModules ∉ as) ?_ ?_ ?_ ?_ ?_ ?_ ?_ ?_ ?_ hq
  · intro u r; cases r; exact ⟨_, .none, by simp⟩
  · intro b u r; cases r; exact ⟨_, .bool b, by simp⟩
  · intro i u r; obtain ⟨t, rfl⟩ := r; exact ⟨_, .int i t, by simp⟩
  · intro x u r; obtain ⟨t, rfl⟩ := r; exact ⟨_, .str x t, by simp⟩
  · intro a xs ds hs hne _ ih u r
    cases r
    obtain ⟨its, rv, ⟨o, n, h1, h2, h3, h4⟩, _⟩ := I.list hs
    obtain ⟨as, ra, na⟩ := ih _ rv
    refine ⟨_, .list h1 h2 h4 (by simpa using ra), ?_⟩
    intro hm
    rcases List.mem_cons.mp hm with e | e
    · exact hne e.symm
    · exact na e
  · intro a xs ds hs _ ih u r
    cases r
    obtain ⟨its, rv, ⟨o, h1, h2, n, h3⟩, _⟩ := I.tuple hs
    obtain ⟨as, ra, na⟩ := ih _ rv
    exact ⟨_, .tuple h1 h2 h3 (by simpa using ra), na⟩
  · intro a kvs des he hk _ ih u r
    cases r
    obtain ⟨_, hsys, vs, kv, o, es, ep, h1, h2, h3, _, h5, _⟩ := dk_of I.hok he
    obtain ⟨g1, g2⟩ := keys_read (h := s.heap) h5 kv
    obtain ⟨bs, rb, nb⟩ := ih _ g2
    refine ⟨_, .dict h1 h2.1 h3 (by rw [hk]; exact g1) rb, ?_⟩
    intro hm
    rcases List.mem_cons.mp hm with e | e
    · rw [← e] at hsys; simp at hsys
    · exact nb (by simpa using e)
  · intro us t; cases t; exact ⟨_, .nil, by simp⟩
  · intro v vs d ds _ _ h1 h2 us t
    cases t with
    | cons r t =>
      obtain ⟨as, g1, n1⟩ := h1 _ r
      obtain ⟨bs, g2, n2⟩ := h2 _ t
      exact ⟨_, .cons g1 g2, by simp [n1, n2]⟩
end
theorem Dq.same {K : PySem.W.Frag} {H H' : Hp} (e : Same H H') {v : V} {d : PyData} (h : Dq K H v d) : Dq K H' v d := by
  refine Dq.rec (motive_1 := fun v d _ => Dq K H' v d) (motive_2 := fun vs ds _ => DqAll K H' vs ds) ?_ ?_ ?_ ?_ ?_ ?_ ?_ ?_ ?_ h
  · exact .nonq
  · intro b; exact .blq b
  · intro i; exact .intq i
  · intro x; exact .strq x
  · intro a xs ds hs hne _ ih; exact .lstq (e.seq hs) hne ih
  · intro a xs ds hs _ ih; exact .tupq (Same.tup e hs) ih
  · intro a kvs des he hk _ ih; exact .dctq (e _ _ he) hk ih
  · exact .nil
  · intro v vs d ds _ _ h1 h2; exact .cons h1 h2
theorem DqAll.same {K : PySem.W.Frag} {H H' : Hp} (e : Same H H') : ∀ {vs : List V} {ds : List PyData}, DqAll K H vs ds → DqAll K H' vs ds
  | _, _, .nil => .nil
  | _, _, .cons a b => .cons (Dq.same e a) (DqAll.same e b)
/-! ### repr -/
def rReprQ (K : PySem.W.Frag) : List V → Hp → VK → Prop := fun xs H Q => ∃ (x : V) (d : PyData), xs = [x] ∧ Dq K H x d ∧ d.showable = true ∧ d.depth ≤ 60 ∧ d.shown.length ≤ sizeLine ∧ Q (.str d.shown) H
theorem call_reprQ {X : Cx} (hgd : X.A.guards = some []) (hu : X.A.units + 64 < cLine) : CallR X (.builtin "repr") (rReprQ X.K) := by
  intro pins s σ H xs us Q I r h
  obtain ⟨x, d, rfl, hd, hs, hdep, hz, q⟩ := h
  obtain ⟨u, rfl, rx⟩ := vals1 r
  obtain ⟨as, rd, nsys⟩ := Dq.reads I hd u rx
  have fin : ∀ (h' : Heap) (v tk : Tok), (∀ b o, s.heap.get? b = some o → h'.get? b = some o) → EP X pins σ Q (.str d.shown v) { s with heap := h', toks := tk } := fun h' v tk hk => ⟨.str d.shown, H, I.kept hk, ⟨_, rfl⟩, q⟩
  cases rd with
  | none => exact PySem.P.repr_of_none (fin _ _ _ fun _ _ e => e)
  | bool b =>
    refine PySem.P.repr_of_bool ?_
    cases b <;> exact fin s.heap s.toks (s.toks + 1) fun _ _ e => e
  | int i t => exact PySem.P.repr_of_int (by simpa [PyData.showable] using hs) (fin s.heap s.toks (s.toks + 1) fun _ _ e => e)
  | str y t => exact PySem.P.repr_of_str (fin s.heap s.toks (s.toks + 1) fun _ _ e => e) hz
  | list h1 h2 h3 h4 => exact repr_of_reads' (.list h1 h2 h3 h4) hs (fun _ => nsys) hgd (by omega) (fun _ _ e => e) fin hz
  | tuple h1 h2 h3 h4 => exact repr_of_reads' (.tuple h1 h2 h3 h4) hs (fun _ => nsys) hgd (by omega) (fun _ _ e => e) fin hz
  | dict h1 h2 h3 h4 h5 => exact repr_of_reads' (.dict h1 h2 h3 h4 h5) hs (fun _ => nsys) hgd (by omega) (fun _ _ e => e) fin hz
theorem k_reprQ {X : Cx} {K : PySem.W.Frag} (e : X.K = K) (hgd : X.A.guards = some []) (hu : X.A.units + 64 < cLine) : CallR X (.builtin "repr") (rReprQ K) := by
  rw [← e]; exact call_reprQ hgd hu
end MB

set_option maxHeartbeats 4000000
namespace MB
open PySem PySem.Spec PyProof.Rows L2

/-! ### f(p = v), no value by position -/
def gK {α : Type} (us ws : List α) : List α := match us with
  | [] => ws
  | _ :: _ => []
section
variable {X : Cx} {CX : CXT} {k : Nat} {f : Addr} {fd : FuncData} {ps ks : List Str} {sp : Sp} {E : XK} {x : Str} {p pos : Pos} {kws : List Keyword} {tk : TA} {g : List Value → List Value → List Value} {gV : List V → List V → List V}
theorem pe_callK0 (F : FnOk X.prog X.w X.K X.mg X.base CX k f fd ps sp) (hr : Room k X.A) (hg : Gl X x) (hm : X.mg x = some (.ref f)) (hk : PySem.W.keepIn X.K (.ref f) = true) (hb : KBinds X.K fd ps ks g gV) (hx : Passes CX X E)
    (hkw : PK X kws tk) (hall : (backToKw pos (keywordEach kws X.env)).all (·.1.isSome) = true := by rfl) (hks : (backToKw pos (keywordEach kws X.env)).filterMap (·.1) = ks := by rfl)
    (hdb : (x == ("__debug__" : Str)) = false := by decide)
    (hpl : ((backTo pos (starEach [] X.env)).any (·.1) || (backToKw pos (keywordEach kws X.env)).any (·.1.isNone)) = false := by rfl) :
    PE X (.Call (.Name x p) [] kws pos) (tCallK sp gV E tNil tk) := by
  refine ⟨fun pins s σ H Q I h => ?_⟩
  refine wpAny_Call_Name_kw (ld_glob I hg hm ?_ hdb)
  refine PySem.W.callWith_KW0 (h₀ := X.base) I.ok.mod.kin hk hall ?_ hpl
  refine thn (hkw.run pos pins s σ H _ I h) fun ws s2 ⟨zs, H2, I2, rz, q2⟩ => ⟨I2.kIn, ?_⟩
  rw [hks]
  exact run_fnk (us := []) (vs := []) F hr hb hx I2 .nil rz q2
end
theorem kb1 {K : PySem.W.Frag} {x qual : Str} {st : Stmt} {f : Addr} {fd : FuncData} {q : Str} (F : L2.Fun K x qual st f fd)
    (h : ∀ (kV doc pm : Value) (an : Option Addr) (cdv ct u : Value), bindArgs (PySem.W.fnOf x qual (defArgs st) (defBody st) (defScope st) .none kV doc pm an cdv ct) ⟨[], [(q, u)]⟩ = pure [(q, u)]) : KBinds K fd [q] [q] gK gK := by
  obtain ⟨oc, od, kV, doc, pm, an, cdv, ct, osl, rfl, lk, hcd⟩ := F.ex
  refine ⟨fun s us ws _ hl => ?_, fun {vs us zs ws} r1 r2 => ?_⟩
  · cases us with
    | cons u us => exact nomatch hl
    | nil =>
      match ws, hl with
      | [u], _ => exact .of_eq (h kV doc pm an cdv ct u)
  · cases r1 with
    | nil => exact r2
    | cons _ _ => exact .nil

/-! ### a comprehension with a test -/
theorem lc_sel {K : PySem.W.Frag} {J : It} {n : Nat} {G : Hp → Prop} {Y : Nat → Hp → V → Hp → Prop} (w : Walk J n G Y) {g : TG} {tt : TT} {te : TE} {vs : List Nat} {σ : L2.St} {H1 : Hp} {D : Addr} {Qd : Hp → Prop}
    (f : Nat → Bool) (d : Nat → PyData) (ht : ∀ i, i < n → Tf (d i)) (hn : n ≤ 1000) (hD : H1 D = none) (hG : ∀ H, Same H1 H → G H)
    (hs : ∀ i x H H', i < n → Same H1 H → Y i H x H' → ∀ R : V → Hp → Prop, (∀ y H4, Same H H4 → Dp K H4 y (d i) → R y H4) →
      g x (wipe σ vs) H' fun σ2 H2 => wipe σ2 vs = wipe σ vs ∧ tt σ2 H2 fun b H3 => b = f i ∧ Same H H3 ∧ (b = true → te σ2 H3 R))
    (hd : ∀ H acc, Same H1 H → H D = some (.lst acc) → DpAll K H acc (((List.range n).filter f).map d) → Qd H)
    (mg : ∀ x σ' H' (Q Q' : L2.St → Hp → Prop), (∀ a b, Q a b → Q' a b) → g x σ' H' Q → g x σ' H' Q') (mt : ∀ σ' H' (Q Q' : Bool → Hp → Prop), (∀ a b, Q a b → Q' a b) → tt σ' H' Q → tt σ' H' Q') :
    ∃ W : Nat → Nat → Hp → Prop, (∃ m, W 0 m (upd H1 D (.lst []))) ∧ ∀ i m H, W i m H →
      (J.stop i H ∧ Qd H) ∨ (J.go i H ∧ ∃ Nx : Hp → Prop, (∀ H', Nx H' → ∃ m', m' < m ∧ W (i + 1) m' H') ∧ ∀ x H', J.yld i H x H' → g x (wipe σ vs) H' fun σ2 H2 => wipe σ2 vs = wipe σ vs ∧ tt σ2 H2 fun b H3 =>
        if b = true then te σ2 H3 fun y H4 => ∃ acc, H4 D = some (.lst acc) ∧ acc.length < sizeLine ∧ Nx (upd H4 D (.lst (acc ++ [y]))) else Nx H3) := by
  refine lc_it w (fun i H => Same H1 H ∧ ∃ acc, H D = some (.lst acc) ∧ DpAll K H acc (((List.range i).filter f).map d)) ⟨same_upd hD, [], upd_same, .nil⟩ (fun i H _ h => hG H h.1) ?_ ?_
  · rintro i x H H' hi ⟨s1, acc, ha, hA⟩ hy
    have hlen := DpAll.len hA
    have hle : acc.length ≤ i := by
      rw [hlen, List.length_map]
      have := List.length_filter_le f (List.range i)
      rw [List.length_range] at this
      exact this
    refine mg _ _ _ _ _ ?_ (hs i x H H' hi s1 hy (fun y H4 => ∃ acc, H4 D = some (.lst acc) ∧ acc.length < sizeLine ∧ (f i = true → Same H1 (upd H4 D (.lst (acc ++ [y]))) ∧ ∃ acc', (upd H4 D (.lst (acc ++ [y]))) D = some (.lst acc') ∧ DpAll K (upd H4 D (.lst (acc ++ [y]))) acc' (((List.range (i + 1)).filter f).map d))) ?_)
    · rintro σ2 H2 ⟨h1, h2⟩
      refine ⟨h1, mt _ _ _ _ ?_ h2⟩
      rintro b H3 ⟨hb, s3, h3⟩
      cases b with
      | true =>
        refine iteT ?_
        have h4 := h3 rfl
        have hb' := hb.symm
        simp only [hb', true_implies] at h4
        exact h4
      | false =>
        refine iteF ⟨s1.trans s3, acc, s3 _ _ ha, ?_⟩
        rw [List.range_succ, List.filter_append, List.map_append]
        have e : List.filter f [i] = [] := by rw [List.filter_cons, if_neg (by rw [← hb]; decide)]; rfl
        rw [e, List.map_nil, List.append_nil]
        exact DpAll.same s3 hA
    · intro y H4 s4 hy4
      refine ⟨acc, s4 _ _ ha, sz61 (by omega), fun hf => ⟨Same.mut (s1.trans s4) hD, acc ++ [y], upd_same, ?_⟩⟩
      have kp : Keep K H4 (upd H4 D (.lst (acc ++ [y]))) := But.keep But.upd (s4 _ _ ha)
      have e : List.filter f [i] = [i] := by rw [List.filter_cons, if_pos hf]; rfl
      rw [List.range_succ, List.filter_append, List.map_append, e]
      refine DpAll.keep kp (fun d' h => ?_) (DpAll.append (DpAll.same s4 hA) (.cons hy4 .nil))
      rcases List.mem_append.mp h with h | h
      · obtain ⟨j, hj, rfl⟩ := List.mem_map.mp h
        have := List.mem_range.mp (List.mem_filter.mp hj).1
        exact ht j (by omega)
      · have e : d' = d i := by simpa using h
        rw [e]; exact ht i hi
  · rintro H ⟨s1, acc, ha, hA⟩
    exact hd H acc s1 ha hA
end MB

set_option maxHeartbeats 4000000
namespace MB
open PySem PySem.Spec PyProof.Rows L2
/-! ### x *= e -/
theorem ip_mulW {X : Cx} : PIp X .Mult (fun x y H Q => ∃ i j, x = .int i ∧ y = .int j ∧ CMulW i j ∧ Q (.int (i * j)) H) := by
  intro pins s σ H x y v u Q I r1 r2 h
  obtain ⟨i, j, e1, e2, hc, q⟩ := h
  subst e1; subst e2
  obtain ⟨t, rfl⟩ := r1
  obtain ⟨t', rfl⟩ := r2
  exact imul_int ⟨.int _, H, I.tok _, ⟨_, rfl⟩, q⟩ hc.ok
/-! ### f(q = v, p = w): by keywords in any order -/
def gP {α : Type} (idx : List Nat) (us ws : List α) : List α := match us with
  | [] => idx.filterMap fun i => ws[i]?
  | _ :: _ => []
theorem gP_take {α : Type} {n : Nat} {ws : List α} : ∀ {idx : List Nat}, (∀ i, i ∈ idx → i < n) → (idx.filterMap fun i => (ws.take n)[i]?) = idx.filterMap fun i => ws[i]?
  | [], _ => rfl
  | i :: idx, h => by
    have h1 := h i (List.mem_cons_self ..)
    have h2 := gP_take (α := α) (n := n) (ws := ws) (idx := idx) fun j hj => h j (List.mem_cons_of_mem _ hj)
    rw [List.filterMap_cons, List.filterMap_cons, h2, List.getElem?_take, if_pos h1]
theorem gP_len {α : Type} {ws : List α} : ∀ {idx : List Nat}, (idx.filterMap fun i => ws[i]?).length = idx.length → ∀ i, i ∈ idx → i < ws.length
  | [], _, i, h => nomatch h
  | j :: idx, hl, i, h => by
    cases e : ws[j]? with
    | none =>
      simp only [List.filterMap_cons, e] at hl
      have := List.length_filterMap_le (fun i => ws[i]?) idx
      simp only [List.length_cons] at hl
      omega
    | some x =>
      simp only [List.filterMap_cons, e, List.length_cons, Nat.add_right_cancel_iff] at hl
      rcases List.mem_cons.mp h with h | h
      · subst h
        exact (List.getElem?_eq_some_iff.mp e).1
      · exact gP_len hl i h
theorem gP_rel {zs : List V} {ws : List Value} (r : Vals zs ws) : ∀ idx : List Nat, Vals (idx.filterMap fun i => zs[i]?) (idx.filterMap fun i => ws[i]?)
  | [] => .nil
  | i :: idx => by
    have ih := gP_rel r idx
    cases e : zs[i]? with
    | none =>
      have e2 : ws[i]? = none := List.getElem?_eq_none (by rw [← r.length]; exact List.getElem?_eq_none_iff.mp e)
      simp only [List.filterMap_cons, e, e2]; exact ih
    | some x =>
      obtain ⟨u, e2, ru⟩ := r.get e
      simp only [List.filterMap_cons, e, e2]; exact .cons ru ih
theorem zip_take {α β : Type} : ∀ (ks : List α) (ws : List β), ks.zip (ws.take ks.length) = ks.zip ws
  | [], _ => rfl
  | _ :: _, [] => rfl
  | k :: ks, w :: ws => by simp [zip_take ks ws]
theorem kbP {K : PySem.W.Frag} {x qual : Str} {st : Stmt} {f : Addr} {fd : FuncData} {ps ks : List Str} {idx : List Nat} (F : L2.Fun K x qual st f fd) (hi : idx.length = ps.length) (hk : ks.length = ps.length) (hp : 0 < ps.length)
    (hall : (∀ i, i ∈ idx → i < ps.length) ∧ ps.length - 1 ∈ idx)
    (h : ∀ (kV doc pm : Value) (an : Option Addr) (cdv ct : Value) (ws : List Value), ws.length = ps.length → bindArgs (PySem.W.fnOf x qual (defArgs st) (defBody st) (defScope st) .none kV doc pm an cdv ct) ⟨[], ks.zip ws⟩ = pure (ps.zip (gP idx [] ws))) : KBinds K fd ps ks (gP idx) (gP idx) := by
  obtain ⟨oc, od, kV, doc, pm, an, cdv, ct, osl, rfl, lk, hcd⟩ := F.ex
  refine ⟨fun s us ws _ hl => ?_, fun {vs us zs ws} r1 r2 => ?_⟩
  · cases us with
    | cons u us =>
      have : 0 = ps.length := hl
      omega
    | nil =>
      have hl' : (idx.filterMap fun i => ws[i]?).length = idx.length := by rw [hi]; exact hl
      have h2 := gP_len hl' _ hall.2
      have h3 := h kV doc pm an cdv ct (ws.take ps.length) (by rw [List.length_take]; omega)
      have e1 : gP idx [] (ws.take ps.length) = gP idx [] ws := gP_take hall.1
      have e2 : ks.zip (ws.take ps.length) = ks.zip ws := by
        rw [← hk]
        exact zip_take ks ws
      rw [e1, e2] at h3
      exact .of_eq h3
  · cases r1 with
    | nil => exact gP_rel r2 idx
    | cons _ _ => exact .nil
section
variable {X : Cx} {CX : CXT} {k : Nat} {f : Addr} {fd : FuncData} {ps ks : List Str} {sp : Sp} {E : XK} {x : Str} {p pos : Pos} {kws : List Keyword} {tk : TA} {g : List Value → List Value → List Value} {gV : List V → List V → List V}
end
end MB

set_option maxHeartbeats 4000000
namespace MB
open PySem PySem.Spec PyProof.Rows L2
/-- tuple(range(i, j, k)) -/
def tTupR3 (ta : TA) : TE := fun σ H Q => ta σ H fun vs H1 => ∃ (i j k : Int) (n : Nat), vs = [.int i, .int j, .int k] ∧ RgC i j k n ∧ n ≤ 2 ^ 24 ∧ ∀ q, H1 q = none → Q (.ref q) (upd H1 q (.tup ((List.range n).map fun (m : Nat) => V.int (i + (m : Int) * k))))
theorem pe_tupR3 {X : Cx} {a b c : Expr} {ta : TA} {p p' pos pos' : Pos} (hc : X.calm = true) (hg : Gl X "tuple") (hm : X.mg "tuple" = none) (hg' : Gl X "range") (hm' : X.mg "range" = none) (ha : PA X [a, b, c] ta)
    (hs : starEach [a, b, c] X.env = (false, eval a X.env) :: starEach [b, c] X.env := by rfl) (hpl : (backTo pos' (starEach [b, c] X.env)).any (·.1) = false := by rfl)
    (na : starEach [.Call (.Name "range" p') [a, b, c] [] pos'] X.env = (false, eval (.Call (.Name "range" p') [a, b, c] [] pos') X.env) :: starEach [] X.env := by rfl) :
    PE X (.Call (.Name "tuple" p) [.Call (.Name "range" p') [a, b, c] [] pos'] [] pos) (tTupR3 ta) := by
  refine ⟨fun pins s σ H Q I h => ?_⟩
  refine Call_ (ld_blt I hg hm boot_tuple (PyProof.Rows.callWith_type1 (args_cons (Call_ (ld_blt I hg' hm' boot_range (PyProof.Rows.callWith_type1 (thn (ha.run pos' pins s σ H _ I h) fun us s1 ⟨vs, H1, I1, r1, q1⟩ => ?_) hs hpl))) na) na))
  obtain ⟨i, j, k, n, rfl, ⟨c0, c1, c2, c3⟩, hn, q⟩ := q1
  obtain ⟨u1, u2, u3, rfl, ⟨t1, rfl⟩, ⟨t2, rfl⟩, ⟨t3, rfl⟩⟩ : ∃ u1 u2 u3, us = [u1, u2, u3] ∧ RelV (.int i) u1 ∧ RelV (.int j) u2 ∧ RelV (.int k) u3 := by
    cases r1 with
    | cons x1 y1 => cases y1 with
      | cons x2 y2 => cases y2 with
        | cons x3 y3 => cases y3; exact ⟨_, _, _, rfl, x1, x2, x3⟩
  refine call_range_3 c0 (args_nil ?_) (.inl (PyProof.noPylong_small c1))
  have I2 : Inv X pins σ H1 { s1 with heap := s1.heap.push { cls := .type "range", data := .fields #[.int i t1, .int j t2, .int k t3] } } := I1.kept (t' := s1.toks) fun b o e => Heap.get?_push_of_some _ e
  refine call_tuple_range (n := n) (I2.ok.hd hc) (IsRange.new ..) c2 c3 hn fun h' tk acc hk hi => ?_
  have I3 : Inv X pins σ H1 { s1 with heap := h', toks := tk } := I2.kept hk
  have hv : Vals ((List.range n).map fun (m : Nat) => V.int (i + (m : Int) * k)) acc.toList := by
    have e : acc.toList.length = n := by rw [Array.length_toList]; exact hi.1
    rw [← e]
    refine vals_of_get acc.toList _ fun m u hj => ?_
    obtain ⟨t, rfl⟩ := hi.2 m u (by rw [← hj, Array.getElem?_toList])
    exact ⟨t, rfl⟩
  refine ⟨.ref h'.objs.size, _, I3.laid (o := .tup ((List.range n).map fun (m : Nat) => V.int (i + (m : Int) * k))) (t' := tk) (fun c o e => Heap.get?_push_of_some _ e) (Nat.le_refl _) ⟨?_, acc.toList, hv, ?_⟩, rfl, q _ (I3.hok.fresh (Nat.le_refl _))⟩
  · rw [List.length_map, List.length_range, sizeLine_eq]; omega
  · rw [Array.toArray_toList]; exact IsTup.new _ _
end MB

set_option maxHeartbeats 4000000
namespace MB
open PySem PySem.Spec PyProof.Rows L2
theorem blT {c : Prop} [Decidable c] (h : c) : V.bl (decide c) = V.bl true := by rw [decide_eq_true h]
theorem blF {c : Prop} [Decidable c] (h : ¬ c) : V.bl (decide c) = V.bl false := by rw [decide_eq_false h]
theorem nblF {c : Prop} [Decidable c] (h : c) : V.bl (!decide c) = V.bl false := by rw [decide_eq_true h]; rfl
theorem nblT {c : Prop} [Decidable c] (h : ¬ c) : V.bl (!decide c) = V.bl true := by rw [decide_eq_false h]; rfl
theorem int_ne {i j : Int} (h : i ≠ j) : ¬ V.int i = V.int j := fun e => h (by injection e)
theorem dp_bls_inv {K : PySem.W.Frag} {H : Hp} : ∀ {ns : List Bool} {vs : List V}, DpAll K H vs (ns.map PyData.bool) → vs = ns.map V.bl
  | [], _, .nil => rfl
  | n :: ns, _, .cons a b => by
    cases a
    rw [dp_bls_inv b]
    rfl
/-- a comprehension whose items are truth values -/
theorem lc_bools {K : PySem.W.Frag} {J : It} {n : Nat} {G : Hp → Prop} {Y : Nat → Hp → V → Hp → Prop} (w : Walk J n G Y) {g : TG} {tt : TT} {te : TE} {vs : List Nat} {σ : L2.St} {H1 : Hp} {D : Addr} {Qd : Hp → Prop}
    (bs : List Bool) (hl : bs.length = n) (hn : n ≤ 1000) (hD : H1 D = none) (hG : ∀ H, Same H1 H → G H)
    (hs : ∀ i x H H', i < n → Same H1 H → Y i H x H' → ∀ b, bs[i]? = some b → ∀ R : V → Hp → Prop, (∀ H4, Same H H4 → R (.bl b) H4) →
      g x (wipe σ vs) H' fun σ2 H2 => wipe σ2 vs = wipe σ vs ∧ tt σ2 H2 fun b H3 => b = true ∧ te σ2 H3 R)
    (hd : ∀ H, Same H1 H → H D = some (.lst (bs.map V.bl)) → Qd H)
    (mg : ∀ x σ' H' (Q Q' : L2.St → Hp → Prop), (∀ a b, Q a b → Q' a b) → g x σ' H' Q → g x σ' H' Q') (mt : ∀ σ' H' (Q Q' : Bool → Hp → Prop), (∀ a b, Q a b → Q' a b) → tt σ' H' Q → tt σ' H' Q') :
    ∃ W : Nat → Nat → Hp → Prop, (∃ m, W 0 m (upd H1 D (.lst []))) ∧ ∀ i m H, W i m H →
      (J.stop i H ∧ Qd H) ∨ (J.go i H ∧ ∃ Nx : Hp → Prop, (∀ H', Nx H' → ∃ m', m' < m ∧ W (i + 1) m' H') ∧ ∀ x H', J.yld i H x H' → g x (wipe σ vs) H' fun σ2 H2 => wipe σ2 vs = wipe σ vs ∧ tt σ2 H2 fun b H3 =>
        if b = true then te σ2 H3 fun y H4 => ∃ acc, H4 D = some (.lst acc) ∧ acc.length < sizeLine ∧ Nx (upd H4 D (.lst (acc ++ [y]))) else Nx H3) := by
  refine lc_all (K := K) w (bs.map PyData.bool) (by rw [List.length_map, hl]) (fun d h => ?_) hn hD hG ?_ ?_ mg mt
  · obtain ⟨b, _, rfl⟩ := List.mem_map.mp h
    exact .bl b
  · intro i x H H' hi s y d hd' R hR
    rw [List.getElem?_map] at hd'
    cases e : bs[i]? with
    | none => rw [e] at hd'; cases hd'
    | some b =>
      rw [e] at hd'
      cases hd'
      exact hs i x H H' hi s y b e R fun H4 s4 => hR _ _ s4 (.bl b)
  · intro H acc s ha hA
    rw [dp_bls_inv hA] at ha
    exact hd H s ha
/-- a comprehension whose items are numbers -/
theorem lc_ints {K : PySem.W.Frag} {J : It} {n : Nat} {G : Hp → Prop} {Y : Nat → Hp → V → Hp → Prop} (w : Walk J n G Y) {g : TG} {tt : TT} {te : TE} {vs : List Nat} {σ : L2.St} {H1 : Hp} {D : Addr} {Qd : Hp → Prop}
    (bs : List Int) (hl : bs.length = n) (hn : n ≤ 1000) (hD : H1 D = none) (hG : ∀ H, Same H1 H → G H)
    (hs : ∀ i x H H', i < n → Same H1 H → Y i H x H' → ∀ b, bs[i]? = some b → ∀ R : V → Hp → Prop, (∀ H4, Same H H4 → R (.int b) H4) →
      g x (wipe σ vs) H' fun σ2 H2 => wipe σ2 vs = wipe σ vs ∧ tt σ2 H2 fun b H3 => b = true ∧ te σ2 H3 R)
    (hd : ∀ H, Same H1 H → H D = some (.lst (bs.map V.int)) → Qd H)
    (mg : ∀ x σ' H' (Q Q' : L2.St → Hp → Prop), (∀ a b, Q a b → Q' a b) → g x σ' H' Q → g x σ' H' Q') (mt : ∀ σ' H' (Q Q' : Bool → Hp → Prop), (∀ a b, Q a b → Q' a b) → tt σ' H' Q → tt σ' H' Q') :
    ∃ W : Nat → Nat → Hp → Prop, (∃ m, W 0 m (upd H1 D (.lst []))) ∧ ∀ i m H, W i m H →
      (J.stop i H ∧ Qd H) ∨ (J.go i H ∧ ∃ Nx : Hp → Prop, (∀ H', Nx H' → ∃ m', m' < m ∧ W (i + 1) m' H') ∧ ∀ x H', J.yld i H x H' → g x (wipe σ vs) H' fun σ2 H2 => wipe σ2 vs = wipe σ vs ∧ tt σ2 H2 fun b H3 =>
        if b = true then te σ2 H3 fun y H4 => ∃ acc, H4 D = some (.lst acc) ∧ acc.length < sizeLine ∧ Nx (upd H4 D (.lst (acc ++ [y]))) else Nx H3) := by
  refine lc_all (K := K) w (bs.map PyData.int) (by rw [List.length_map, hl]) (tf_ints _) hn hD hG ?_ ?_ mg mt
  · intro i x H H' hi s y d hd' R hR
    rw [List.getElem?_map] at hd'
    cases e : bs[i]? with
    | none => rw [e] at hd'; cases hd'
    | some b =>
      rw [e] at hd'
      cases hd'
      exact hs i x H H' hi s y b e R fun H4 s4 => hR _ _ s4 (.int b)
  · intro H acc s ha hA
    rw [dp_ints_inv hA] at ha
    exact hd H s ha
theorem k_pgTN {X : Cx} {K : PySem.W.Frag} {x y z : Str} {px py pz p1 : Pos} {k k1 : Nat} {pos : Pos} {t1 t2 : TG} (hK : X.K = K) (hc : X.calm = true) (h1 : PG X (.Tuple [.Name x px, .Name y py] k1 p1) t1) (h2 : PG X (.Name z pz) t2) : PG X (.Tuple [.Tuple [.Name x px, .Name y py] k1 p1, .Name z pz] k pos) (gTup K 2 (gCons t1 (gCons t2 gNil))) := by
  subst hK
  exact pg_tup hc (pgs_cons h1 (pgs_cons h2 pgs_nil))
theorem mono_pair2 {K : PySem.W.Frag} {n n' i j l : Nat} (x : V) (σ' : L2.St) (H' : Hp) (Q Q' : L2.St → Hp → Prop) (h : ∀ a b, Q a b → Q' a b) (e : gTup K n (gCons (gTup K n' (gCons (gName i) (gCons (gName j) gNil))) (gCons (gName l) gNil)) x σ' H' Q) : gTup K n (gCons (gTup K n' (gCons (gName i) (gCons (gName j) gNil))) (gCons (gName l) gNil)) x σ' H' Q' := by
  obtain ⟨a, xs, e1, e2, e3, v, r, e4, b, ys, f1, f2, f3, v1, r1, f4, v2, r2, f5, f6, v', r', e5, e6, q⟩ := e
  exact ⟨a, xs, e1, e2, e3, v, r, e4, b, ys, f1, f2, f3, v1, r1, f4, v2, r2, f5, f6, v', r', e5, e6, h _ _ q⟩
theorem ci_sum : ∀ p : List Nat, (ci p).sum = ((p.sum : Nat) : Int)
  | [] => rfl
  | x :: p => by
    have := ci_sum p
    simp only [ci, List.map_cons, List.sum_cons, Int.natCast_add] at this ⊢
    rw [this]
theorem cutV_to {p : List Nat} {m : Nat} (h : m ≤ p.length) : cutV (vi p) none (some (m : Int)) = vi (p.take m) := by
  rw [cut_to (by rw [vi_len]; exact h)]; simp [vi, List.map_take]
theorem cutV_from {p : List Nat} {m : Nat} (h : m ≤ p.length) : cutV (vi p) (some (m : Int)) none = vi (p.drop m) := by
  rw [cut_from (by rw [vi_len]; exact h)]; simp [vi, List.map_drop]
theorem cut_drop {p : List Nat} {m : Nat} (h : m ≤ p.length) : cutV (vi p) (some (m : Int)) none = (ci (p.drop m)).map V.int := by
  rw [cutV_from h, vi_ci]
theorem isi_int {K : PySem.W.Frag} {H : Hp} {i : Int} {Q : VK} (q : Q (.bl true) H) : rIsi K [.int i, .ty "int"] H Q :=
  ⟨.int i, .ty "int", .type "int", .type "int", true, rfl, .ty _, .base (.int i), kit_ty (by decide +kernel), q⟩
theorem isi_bool {K : PySem.W.Frag} {H : Hp} {i : Int} {Q : VK} (q : Q (.bl false) H) : rIsi K [.int i, .ty "bool"] H Q :=
  ⟨.int i, .ty "bool", .type "int", .type "bool", false, rfl, .ty _, .base (.int i), kit_ty (by decide +kernel), q⟩
theorem nth3 {n : Nat} (x : List V) (h : x.length = n) (i : Nat) (hi : i < (if (if (x.length : Int) < 3 then (x.length : Int) else 3) > 1 then (if (x.length : Int) < 3 then (x.length : Int) else 3) else 1 : Int).toNat) : i ≤ 62 := by
  have : (if (if (x.length : Int) < 3 then (x.length : Int) else 3) > 1 then (if (x.length : Int) < 3 then (x.length : Int) else 3) else 1) ≤ 3 := by split <;> split <;> omega
  omega
end MB

set_option maxHeartbeats 4000000
namespace MB
open PySem PySem.Spec PyProof.Rows L2
theorem alike_ints (ns : List Int) : PySem.W.AlikeAll (ns.map PyData.int) := by
  refine ⟨fun x hx y hy => ?_, fun x hx e => ?_⟩
  · obtain ⟨i, _, rfl⟩ := List.mem_map.mp hx
    obtain ⟨j, _, rfl⟩ := List.mem_map.mp hy
    simp [PySem.W.alike]
  · obtain ⟨i, _, rfl⟩ := List.mem_map.mp hx
    cases e
theorem depth_ints : ∀ ns : List Int, PyData.depthAll (ns.map PyData.int) = 0
  | [] => by simp [PyData.depthAll]
  | n :: ns => by simp [PyData.depthAll, PyData.depth, depth_ints ns]
/-! ### max of a tuple of ints; with default= -/
def rMaxT (K : PySem.W.Frag) : List V → Hp → VK → Prop := fun xs H Q => ∃ (a : Addr) (n : Int) (ns : List Int), xs = [V.ref a] ∧ SqT K H a ((n :: ns).map V.int) ∧ Q (.int (ns.foldl max n)) H
theorem cr_maxT {X : Cx} {K : PySem.W.Frag} (hK : X.K = K) (hc : X.calm = true) (hu : X.A.units + 64 < cLine) : CallR X (.builtin "max") (rMaxT K) := by
  subst hK
  intro pins s σ H vs us Q I r h
  obtain ⟨a, n, ns, rfl, hs, q⟩ := h
  obtain ⟨its, rv, hl, _⟩ := I.tuple hs
  rw [Vals.ref1 r]
  obtain ⟨as, rd⟩ := Dp.readsAll I ((n :: ns).map PyData.int) _ its (dp_ints (n :: ns)) rv
  refine PySem.W.max_tuple_data (x := .int n) (xs := ns.map PyData.int) (I.ok.hd hc) hl (by simpa using rd) (alike_ints (n :: ns)) ?_ fun i v h' tk bs _ hr hk => ?_
  · have := depth_ints (n :: ns)
    rw [List.map_cons] at this
    rw [this]; omega
  · rw [PySem.W.maxD_ints] at hr
    cases hr
    exact ⟨.int _, H, I.kept hk, ⟨_, rfl⟩, q⟩
def rMaxDef (K : PySem.W.Frag) : List V → List V → Hp → VK → Prop := fun xs zs H Q => ∃ (a : Addr) (z : Int) (ns : List Int), xs = [V.ref a] ∧ zs = [V.int z] ∧ SqT K H a (ns.map V.int) ∧ (ns = [] → Q (.int z) H) ∧ ∀ m r, ns = m :: r → Q (.int (r.foldl max m)) H
theorem cr_maxDef {X : Cx} {K : PySem.W.Frag} (hK : X.K = K) (hc : X.calm = true) (hu : X.A.units + 64 < cLine) : CallRK X (.builtin "max") [Str.ofString "default"] (rMaxDef K) := by
  subst hK
  intro pins s σ H vs zs us ws Q I r rz h
  obtain ⟨a, z, ns, rfl, rfl, hs, q0, q1⟩ := h
  obtain ⟨its, rv, hl, _⟩ := I.tuple hs
  rw [Vals.ref1 r]
  obtain ⟨u, rfl, tz, rfl⟩ := vals1 rz
  obtain ⟨as, rd⟩ := Dp.readsAll I (ns.map PyData.int) _ its (dp_ints ns) rv
  refine PySem.W.max_tuple_default (xs := ns.map PyData.int) (I.ok.hd hc) hl (by simpa using rd) (alike_ints ns) ?_ (fun e h' tk hk => ?_) fun y ys i v h' tk bs e _ hr hk => ?_
  · rw [depth_ints ns]; omega
  · exact ⟨.int z, H, I.kept hk, ⟨_, rfl⟩, q0 (List.map_eq_nil_iff.mp e)⟩
  · cases ns with
    | nil => cases e
    | cons m t =>
      rw [List.map_cons] at e
      cases e
      rw [PySem.W.maxD_ints] at hr
      cases hr
      exact ⟨.int _, H, I.kept hk, ⟨_, rfl⟩, q1 m t rfl⟩
/-! ### sorted of a tuple of ints -/
section
variable {prog : Program} {w : World} {A : Around} {E : Value → Shared → Prop} {s : Shared}
theorem gather_tuple {p : Addr} {xs : List Value} {R : List Value → Shared → Prop} (ht : s.heap.IsTuple p xs.toArray) (hz : xs.length ≤ sizeLine)
    (q : R xs { s with heap := (s.heap.push (seqObj "list" #[] 0)).update s.heap.objs.size (Obj.mapSeq (· ++ xs.toArray)) }) : wpAny (model prog w) A (collect (.ref p)) R E s := by
  obtain ⟨ob, hob, hcl, ep, hdt⟩ := id ht
  unfold collect
  refine wpAny_bind (wpAny_runValue (codeAny_builtin entry_proto_collect' (show wpAny _ _ (do again (.builtin "list.__iadd__" ⟨[← newList [], .ref p], []⟩)) _ _ s from ?_)))
  refine wpAny_bind (wpAny_newList (wpAny_pure ⟨Code.quiet_builtin _ (by decide +kernel), codeAny_builtin entry_list_iadd' (show wpAny _ _ (Builtin.List.listExtendWith (.ref s.heap.objs.size) (.ref p) (.ref s.heap.objs.size)) _ _ { s with heap := s.heap.push (seqObj "list" #[] 0) } from ?_)⟩))
  unfold Builtin.List.listExtendWith
  have hob' : (s.heap.push (seqObj "list" #[] 0)).get? p = some ob := Heap.get?_push_of_some _ hob
  refine wpAny_bind (wpAny_typeOf (T := "tuple") ⟨ob, hob', hcl⟩ ?_)
  have tt : (Value.type "tuple" == Value.type "tuple") = true := by rfl
  rw [if_pos (by rw [tt]; simp)]
  refine wpAny_bind (listItems_at hob' hdt (wpAny_bind (listItems_at (xs := #[]) (n := 0) (Heap.get?_push_size _ rfl) rfl ?_)))
  rw [if_neg (by simp)]
  refine wpAny_bind (listUpdate_at (xs := #[]) (n := 0) (Heap.get?_push_size _ rfl) rfl (wpAny_pure ?_) (Nat.zero_le _) (by show (#[] ++ xs.toArray).size ≤ sizeLine + 1; simp only [Array.size_append, List.size_toArray, List.length_nil]; omega))
  show wpAny (model prog w) A (load s.heap.objs.size >>= _) R E { s with heap := (s.heap.push (seqObj "list" #[] 0)).update s.heap.objs.size (Obj.mapSeq (· ++ xs.toArray)) }
  refine wpAny_bind (wpAny_load (get?_update_seq (Heap.get?_push_size _ rfl) _) (show wpAny _ _ (pure ((#[] : Array Value) ++ xs.toArray).toList) R E _ from ?_))
  have ex : ((#[] : Array Value) ++ xs.toArray).toList = xs := by simp
  rw [ex]
  exact wpAny_pure q
theorem sorted_tup {p : Addr} {xs : List Value} {ns : List Int} {Q : Value → Shared → Prop} (ht : s.heap.IsTuple p xs.toArray) (hz : xs.length ≤ sizeLine) (hi : IntsAre xs ns)
    (q : ∀ out : List Value, SrtO.Srtd SrtO.ltIv out → SrtO.Stb SrtO.ltIv out xs → Q (.ref (s.heap.objs.size + 1)) { s with heap := sortedAll s.heap xs out.toArray }) :
    wpAny (model prog w) A (call (.builtin "sorted") [.ref p]) Q E s := by
  refine Calls.call_function_entry kind_sorted plain_sorted entry_sorted (args_sorted1 _) ?_
  unfold Builtin.«sorted»
  refine wpAny_bind (m := checkCount "sorted" 1 1 _) (wpAny_pure (wpAny_bind (gather_tuple ht hz (wpAny_bind (wpAny_newList ?_ hz)))))
  have sz1 : ((s.heap.push (seqObj "list" #[] 0)).update s.heap.objs.size (Obj.mapSeq (· ++ xs.toArray))).objs.size = s.heap.objs.size + 1 := (Heap.size_update ..).trans (Heap.size_push ..)
  have hoL := Heap.get?_push_size ((s.heap.push (seqObj "list" #[] 0)).update s.heap.objs.size (Obj.mapSeq (· ++ xs.toArray))) (o := seqObj "list" xs.toArray 0) rfl
  rw [sz1] at hoL
  show wpAny _ _ _ _ _ { s with heap := ((s.heap.push (seqObj "list" #[] 0)).update s.heap.objs.size (Obj.mapSeq (· ++ xs.toArray))).push (seqObj "list" xs.toArray 0) }
  rw [sz1]
  exact wpAny_bind (wpAny_holding (wpAny_call_entry PyProof.Rows.slot_list_sort ⟨_, hoL, rfl⟩ PyProof.Rows.entry_list_sort (SrtO.list_sort_ord SrtO.swo_int hoL hz (fun h2 => SrtO.ints_sortable hi h2) fun out hs hb => ⟨_, rfl, wpAny_pure ⟨_, rfl, q out hs hb⟩⟩) (PyProof.Rows.args_list_sort _)))
end
def rSortT (K : PySem.W.Frag) : List V → Hp → VK → Prop := fun xs H Q => ∃ (a : Addr) (ns : List Int), xs = [V.ref a] ∧ SqT K H a (ns.map V.int) ∧ ∀ (ms : List Int) (p : Addr), ms.Perm ns → H p = none → Q (.ref p) (upd H p (.lst (ms.map V.int)))
theorem cr_sortTI {X : Cx} : CallR X (.builtin "sorted") (rSortT X.K) := by
  intro pins s σ H vs us Q I r h
  obtain ⟨a, ns, rfl, hs, q⟩ := h
  obtain ⟨its, rv, hl, hz⟩ := I.tuple hs
  rw [Vals.ref1 r]
  have hi := rv.ints
  refine sorted_tup hl (by rw [← rv.length]; exact hz) hi fun out h1 h2 => ?_
  obtain ⟨k1, k2, k3⟩ := SrtO.ints_out hi h1 h2
  obtain ⟨ep, he'⟩ := sortedAll_at s.heap its out.toArray
  have hlen : ((out.map SrtO.iv).map V.int).length ≤ sizeLine := by
    have := k2.length_eq
    simp only [List.length_map] at this hz ⊢
    omega
  exact ⟨.ref _, upd H (s.heap.objs.size + 1) (.lst ((out.map SrtO.iv).map V.int)), I.laid (t' := s.toks) (fun _ _ e => sortedAll_old e) (Nat.le_succ _) ⟨hlen, out, ep, vals_of_ints k1, he'⟩, rfl, q _ _ k2 (I.hok.fresh (Nat.le_succ _))⟩
end MB

set_option maxHeartbeats 4000000
namespace MB
/-- the first of the least among f 0 .. f n -/
def amin (f : Nat → Int) : Nat → Nat
  | 0 => 0
  | n + 1 => if f (n + 1) < f (amin f n) then n + 1 else amin f n
theorem amin_le (f : Nat → Int) : ∀ n, amin f n ≤ n
  | 0 => Nat.le_refl _
  | n + 1 => by
    have := amin_le f n
    unfold amin
    split <;> omega
theorem amin_min (f : Nat → Int) : ∀ n k, k ≤ n → f (amin f n) ≤ f k
  | 0, k, h => by
    have : k = 0 := by omega
    rw [this]
    exact Int.le_refl _
  | n + 1, k, h => by
    have ih := amin_min f n
    unfold amin
    split
    · rename_i hlt
      by_cases e : k = n + 1
      · rw [e]
        exact Int.le_refl _
      · have := ih k (by omega)
        omega
    · rename_i hlt
      by_cases e : k = n + 1
      · rw [e]
        omega
      · exact ih k (by omega)
theorem amin_first (f : Nat → Int) : ∀ n k, k < amin f n → f (amin f n) < f k
  | 0, k, h => by simp [amin] at h
  | n + 1, k, h => by
    have ih := amin_first f n
    have hm := amin_min f n
    unfold amin at h ⊢
    split at h
    · rename_i hlt
      rw [if_pos hlt]
      have := hm k (by omega)
      omega
    · rename_i hlt
      rw [if_neg hlt]
      exact ih k h
theorem amin_uniq {f : Nat → Int} {n a : Nat} (ha : a ≤ n) (h1 : ∀ k, k ≤ n → f a ≤ f k) (h2 : ∀ k, k < a → f a < f k) : amin f n = a := by
  rcases Nat.lt_trichotomy (amin f n) a with h | h | h
  · have := h2 _ h
    have := amin_min f n a ha
    omega
  · exact h
  · have := amin_first f n a h
    have := h1 _ (amin_le f n)
    omega
theorem amin_like {f g : Nat → Int} {n : Nat} (h : ∀ j k, j ≤ n → k ≤ n → (f j < f k ↔ g j < g k)) : amin f n = amin g n := by
  refine amin_uniq (amin_le g n) (fun k hk => ?_) (fun k hk => ?_)
  · have h1 := amin_min g n k hk
    have h2 := h k (amin g n) hk (amin_le g n)
    by_cases e : f k < f (amin g n)
    · have := h2.mp e; omega
    · omega
  · have h0 := amin_le g n
    exact (h _ _ (amin_le g n) (by omega)).mpr (amin_first g n k hk)
theorem amin_congr {f g : Nat → Int} {n : Nat} (h : ∀ k, k ≤ n → f k = g k) : amin f n = amin g n :=
  amin_like fun j k hj hk => by rw [h j hj, h k hk]
/-- the cost of the root i + k of the m flushes from i on -/
def cst (S R : Nat → Int) (i m k : Nat) : Int := S (i + k + 1) - S i + R (i + m) - R (i + k)
def lwF (S R : Nat → Int) : Nat → Nat → Nat → Int
  | 0, _, _ => 0
  | _ + 1, _, 0 => 0
  | f + 1, i, m + 1 => (fun k => lwF S R f i k + lwF S R f (i + k + 1) (m - k) + cst S R i (m + 1) k) (amin (fun k => lwF S R f i k + lwF S R f (i + k + 1) (m - k) + cst S R i (m + 1) k) m)
theorem lwF_eq (S R : Nat → Int) : ∀ f m i, m ≤ f → lwF S R f i m = lwF S R m i m := by
  have key : ∀ f, ∀ m i, m ≤ f → lwF S R (f + 1) i m = lwF S R f i m := by
    intro f
    induction f with
    | zero => intro m i h; have : m = 0 := by omega
              subst this; rfl
    | succ f ih =>
      intro m i h
      cases m with
      | zero => rfl
      | succ m =>
        have e : ∀ k, k ≤ m → lwF S R (f + 1) i k + lwF S R (f + 1) (i + k + 1) (m - k) + cst S R i (m + 1) k = lwF S R f i k + lwF S R f (i + k + 1) (m - k) + cst S R i (m + 1) k := fun k hk => by
          rw [ih k i (by omega), ih (m - k) (i + k + 1) (by omega)]
        show (fun k => lwF S R (f + 1) i k + lwF S R (f + 1) (i + k + 1) (m - k) + cst S R i (m + 1) k) (amin (fun k => lwF S R (f + 1) i k + lwF S R (f + 1) (i + k + 1) (m - k) + cst S R i (m + 1) k) m) = (fun k => lwF S R f i k + lwF S R f (i + k + 1) (m - k) + cst S R i (m + 1) k) (amin (fun k => lwF S R f i k + lwF S R f (i + k + 1) (m - k) + cst S R i (m + 1) k) m)
        rw [amin_congr e]
        exact e _ (amin_le _ _)
  intro f m i h
  induction f with
  | zero => have : m = 0 := by omega
            subst this; rfl
  | succ f ih =>
    by_cases e : m ≤ f
    · rw [key f m i e, ih e]
    · have : m = f + 1 := by omega
      rw [this]
/-- the least work of the m flushes from i on -/
def lw (S R : Nat → Int) (i m : Nat) : Int := lwF S R m i m
/-- the least work of the m + 1 flushes from i on with the root i + k -/
def via (S R : Nat → Int) (i m k : Nat) : Int := lw S R i k + lw S R (i + k + 1) (m - k) + cst S R i (m + 1) k
def rt (S R : Nat → Int) (i m : Nat) : Nat := amin (via S R i m) m
theorem lw_zero (S R : Nat → Int) (i : Nat) : lw S R i 0 = 0 := rfl
theorem lw_succ (S R : Nat → Int) (i m : Nat) : lw S R i (m + 1) = via S R i m (rt S R i m) := by
  have e : ∀ k, k ≤ m → lwF S R m i k + lwF S R m (i + k + 1) (m - k) + cst S R i (m + 1) k = via S R i m k := fun k hk => by
    rw [lwF_eq S R m k i hk, lwF_eq S R m (m - k) (i + k + 1) (by omega)]; rfl
  show (fun k => lwF S R m i k + lwF S R m (i + k + 1) (m - k) + cst S R i (m + 1) k) (amin (fun k => lwF S R m i k + lwF S R m (i + k + 1) (m - k) + cst S R i (m + 1) k) m) = _
  rw [amin_congr e]
  exact e _ (amin_le _ _)
theorem rt_le (S R : Nat → Int) (i m : Nat) : rt S R i m ≤ m := amin_le _ _
theorem lw_le (S R : Nat → Int) (i : Nat) {m k : Nat} (h : k ≤ m) : lw S R i (m + 1) ≤ via S R i m k := by
  rw [lw_succ]
  exact amin_min _ _ _ h
def ltF (S R : Nat → Int) : Nat → Nat → Nat → T
  | 0, _, _ => .nil
  | _ + 1, _, 0 => .nil
  | f + 1, i, m + 1 => .node (ltF S R f i (rt S R i m)) (ltF S R f (i + rt S R i m + 1) (m - rt S R i m))
theorem ltF_eq (S R : Nat → Int) : ∀ f m i, m ≤ f → ltF S R f i m = ltF S R m i m := by
  have key : ∀ f, ∀ m i, m ≤ f → ltF S R (f + 1) i m = ltF S R f i m := by
    intro f
    induction f with
    | zero => intro m i h; have : m = 0 := by omega
              subst this; rfl
    | succ f ih =>
      intro m i h
      cases m with
      | zero => rfl
      | succ m =>
        have hr := rt_le S R i m
        show T.node (ltF S R (f + 1) i (rt S R i m)) (ltF S R (f + 1) (i + rt S R i m + 1) (m - rt S R i m)) = T.node (ltF S R f i (rt S R i m)) (ltF S R f (i + rt S R i m + 1) (m - rt S R i m))
        rw [ih _ _ (by omega), ih _ _ (by omega)]
  intro f m i h
  induction f with
  | zero => have : m = 0 := by omega
            subst this; rfl
  | succ f ih =>
    by_cases e : m ≤ f
    · rw [key f m i e, ih e]
    · have : m = f + 1 := by omega
      rw [this]
/-- the tree of least roots of the m flushes from i on -/
def lt (S R : Nat → Int) (i m : Nat) : T := ltF S R m i m
theorem lt_zero (S R : Nat → Int) (i : Nat) : lt S R i 0 = .nil := rfl
theorem lt_succ (S R : Nat → Int) (i m : Nat) : lt S R i (m + 1) = .node (lt S R i (rt S R i m)) (lt S R (i + rt S R i m + 1) (m - rt S R i m)) := by
  have hr := rt_le S R i m
  show T.node (ltF S R m i (rt S R i m)) (ltF S R m (i + rt S R i m + 1) (m - rt S R i m)) = _
  rw [ltF_eq S R m _ i hr, ltF_eq S R m _ (i + rt S R i m + 1) (by omega)]; rfl
theorem lt_size (S R : Nat → Int) : ∀ m i, (lt S R i m).size = m := by
  intro m
  induction m using Nat.strongRecOn with
  | ind m ih =>
    intro i
    cases m with
    | zero => rfl
    | succ m =>
      have hr := rt_le S R i m
      rw [lt_succ]
      show (lt S R i (rt S R i m)).size + 1 + (lt S R (i + rt S R i m + 1) (m - rt S R i m)).size = m + 1
      rw [ih _ (by omega), ih _ (by omega)]
      omega
/-- only the differences count -/
theorem lw_shift {S R S' R' : Nat → Int} {d : Nat} {c c' : Int} : ∀ m i, (∀ j, i ≤ j → j ≤ i + m → S j = S' (j + d) + c ∧ R j = R' (j + d) + c') → lw S R i m = lw S' R' (i + d) m ∧ lt S R i m = lt S' R' (i + d) m := by
  intro m
  induction m using Nat.strongRecOn with
  | ind m ih =>
    intro i h
    cases m with
    | zero => exact ⟨rfl, rfl⟩
    | succ m =>
      have ev : ∀ k, k ≤ m → via S R i m k = via S' R' (i + d) m k := fun k hk => by
        have e1 := (ih k (by omega) i fun j h1 h2 => h j h1 (by omega)).1
        have e2 := (ih (m - k) (by omega) (i + k + 1) fun j h1 h2 => h j (by omega) (by omega)).1
        have a1 := (h (i + k + 1) (by omega) (by omega)).1
        have a2 := (h i (by omega) (by omega)).1
        have a3 := (h (i + (m + 1)) (by omega) (by omega)).2
        have a4 := (h (i + k) (by omega) (by omega)).2
        rw [show i + k + 1 + d = i + d + k + 1 by omega] at a1
        rw [show i + (m + 1) + d = i + d + (m + 1) by omega] at a3
        rw [show i + k + d = i + d + k by omega] at a4
        rw [show i + k + 1 + d = i + d + k + 1 by omega] at e2
        unfold via cst
        rw [e1, e2, a1, a2, a3, a4]
        omega
      have er : rt S R i m = rt S' R' (i + d) m := amin_congr ev
      have hr := rt_le S' R' (i + d) m
      refine ⟨?_, ?_⟩
      · rw [lw_succ, lw_succ, er]
        exact ev _ hr
      · rw [lt_succ, lt_succ, er]
        rw [(ih (rt S' R' (i + d) m) (by omega) i fun j h1 h2 => h j h1 (by omega)).2]
        rw [(ih (m - rt S' R' (i + d) m) (by omega) (i + rt S' R' (i + d) m + 1) fun j h1 h2 => h j (by omega) (by omega)).2]
        rw [show i + rt S' R' (i + d) m + 1 + d = i + d + rt S' R' (i + d) m + 1 by omega]
theorem rt_shift {S R S' R' : Nat → Int} {d : Nat} {c c' : Int} {m i : Nat} (h : ∀ j, i ≤ j → j ≤ i + (m + 1) → S j = S' (j + d) + c ∧ R j = R' (j + d) + c') : rt S R i m = rt S' R' (i + d) m := by
  refine amin_congr fun k hk => ?_
  have e1 := (lw_shift (S := S) (R := R) (S' := S') (R' := R') k i fun j h1 h2 => h j h1 (by omega)).1
  have e2 := (lw_shift (S := S) (R := R) (S' := S') (R' := R') (m - k) (i + k + 1) fun j h1 h2 => h j (by omega) (by omega)).1
  have a1 := (h (i + k + 1) (by omega) (by omega)).1
  have a2 := (h i (by omega) (by omega)).1
  have a3 := (h (i + (m + 1)) (by omega) (by omega)).2
  have a4 := (h (i + k) (by omega) (by omega)).2
  rw [show i + k + 1 + d = i + d + k + 1 by omega] at a1
  rw [show i + (m + 1) + d = i + d + (m + 1) by omega] at a3
  rw [show i + k + d = i + d + k by omega] at a4
  rw [show i + k + 1 + d = i + d + k + 1 by omega] at e2
  unfold via cst
  rw [e1, e2, a1, a2, a3, a4]
  omega
theorem lw_scale {S R : Nat → Int} {c : Int} (hc : 0 < c) : ∀ m i, lw (fun j => c * S j) (fun j => c * R j) i m = c * lw S R i m := by
  intro m
  induction m using Nat.strongRecOn with
  | ind m ih =>
    intro i
    cases m with
    | zero => rw [lw_zero, lw_zero, Int.mul_zero]
    | succ m =>
      have ev : ∀ k, k ≤ m → via (fun j => c * S j) (fun j => c * R j) i m k = c * via S R i m k := fun k hk => by
        unfold via cst
        rw [ih k (by omega), ih (m - k) (by omega)]
        simp only [Int.mul_add, Int.mul_sub]
      have er : rt (fun j => c * S j) (fun j => c * R j) i m = rt S R i m := amin_like fun j k hj hk => by
        rw [ev j hj, ev k hk]
        exact Int.mul_lt_mul_left hc
      rw [lw_succ, lw_succ, er]
      exact ev _ (rt_le _ _ _ _)
theorem rt_scale {S R : Nat → Int} {c : Int} (hc : 0 < c) (i m : Nat) : rt (fun j => c * S j) (fun j => c * R j) i m = rt S R i m :=
  amin_like fun j k hj hk => by
    have ev : ∀ k, k ≤ m → via (fun j => c * S j) (fun j => c * R j) i m k = c * via S R i m k := fun k hk => by
      unfold via cst
      rw [lw_scale hc, lw_scale hc]
      simp only [Int.mul_add, Int.mul_sub]
    rw [ev j hj, ev k hk]
    exact Int.mul_lt_mul_left hc
theorem lw_add {S R S' R' : Nat → Int} : ∀ m i, lw S R i m + lw S' R' i m ≤ lw (fun j => S j + S' j) (fun j => R j + R' j) i m := by
  intro m
  induction m using Nat.strongRecOn with
  | ind m ih =>
    intro i
    cases m with
    | zero => rw [lw_zero, lw_zero, lw_zero]; decide
    | succ m =>
      rw [lw_succ (fun j => S j + S' j)]
      generalize hk : rt (fun j => S j + S' j) (fun j => R j + R' j) i m = k
      have hk2 : k ≤ m := by rw [← hk]; exact rt_le _ _ _ _
      have h1 := lw_le S R i hk2
      have h2 := lw_le S' R' i hk2
      have h3 := ih k (by omega) i
      have h4 := ih (m - k) (by omega) (i + k + 1)
      unfold via cst at *
      dsimp only at *
      omega
def Mono (S : Nat → Int) : Prop := ∀ a b, a ≤ b → S a ≤ S b
theorem lw_nonneg {S R : Nat → Int} (hS : Mono S) (hR : Mono R) : ∀ m i, 0 ≤ lw S R i m := by
  intro m
  induction m using Nat.strongRecOn with
  | ind m ih =>
    intro i
    cases m with
    | zero => exact Int.le_refl _
    | succ m =>
      rw [lw_succ]
      have hk2 := rt_le S R i m
      generalize rt S R i m = k at hk2 ⊢
      have h3 := ih k (by omega) i
      have h4 := ih (m - k) (by omega) (i + k + 1)
      have h5 := hS i (i + k + 1) (by omega)
      have h6 := hR (i + k) (i + (m + 1)) (by omega)
      unfold via cst
      omega
theorem lw_last {S R : Nat → Int} (hS : Mono S) (hR : Mono R) : ∀ m i, lw S R i m + (S (i + m + 1) - S (i + m)) + (R (i + m + 1) - R (i + m)) ≤ lw S R i (m + 1) := by
  intro m
  induction m using Nat.strongRecOn with
  | ind m ih =>
    intro i
    rw [lw_succ]
    have hk2 := rt_le S R i m
    generalize rt S R i m = k at hk2 ⊢
    by_cases e : k = m
    · subst e
      unfold via cst
      rw [Nat.sub_self, lw_zero]
      have := hS i (i + k) (by omega)
      rw [show i + (k + 1) = i + k + 1 by omega]
      omega
    · obtain ⟨m', rfl⟩ : ∃ m', m = m' + 1 := ⟨m - 1, by omega⟩
      have h3 := ih (m' - k) (by omega) (i + k + 1)
      rw [show i + k + 1 + (m' - k) + 1 = i + (m' + 1) + 1 by omega, show i + k + 1 + (m' - k) = i + (m' + 1) by omega, show m' - k + 1 = m' + 1 - k by omega] at h3
      have h4 := lw_le S R i (show k ≤ m' by omega)
      have h5 := hR (i + (m' + 1)) (i + (m' + 1) + 1) (by omega)
      unfold via cst at *
      rw [show i + (m' + 1 + 1) = i + (m' + 1) + 1 by omega]
      omega
theorem lw_front {S R : Nat → Int} (hS : Mono S) (hR : Mono R) : ∀ m i, lw S R (i + 1) m ≤ lw S R i (m + 1) := by
  intro m
  induction m using Nat.strongRecOn with
  | ind m ih =>
    intro i
    rw [lw_succ S R i]
    have hk2 := rt_le S R i m
    generalize rt S R i m = k at hk2 ⊢
    cases k with
    | zero =>
      unfold via cst
      rw [lw_zero]
      have h5 := hS i (i + 0 + 1) (by omega)
      have h6 := hR (i + 0) (i + (m + 1)) (by omega)
      rw [Nat.sub_zero]
      rw [show i + 0 + 1 = i + 1 by omega] at *
      omega
    | succ k =>
      obtain ⟨m', rfl⟩ : ∃ m', m = m' + 1 := ⟨m - 1, by omega⟩
      have h3 := ih k (by omega) i
      have h4 := lw_le S R (i + 1) (show k ≤ m' by omega)
      have h5 := hS i (i + 1) (by omega)
      unfold via cst at *
      rw [show i + 1 + k + 1 = i + (k + 1) + 1 by omega, show i + 1 + (m' + 1) = i + (m' + 1 + 1) by omega, show i + 1 + k = i + (k + 1) by omega] at h4
      rw [show m' + 1 - (k + 1) = m' - k by omega]
      omega
theorem lw_join {S R : Nat → Int} (hS : Mono S) (hR : Mono R) {i m k : Nat} (h : k ≤ m) : lw S R i m ≤ lw S R i k + lw S R (i + k) (m - k) + (S (i + k) - S i + R (i + m) - R (i + k)) := by
  cases k with
  | zero =>
    rw [lw_zero, Nat.sub_zero, Nat.add_zero]
    have := hR i (i + m) (by omega)
    omega
  | succ k =>
    obtain ⟨m', rfl⟩ : ∃ m', m = m' + 1 := ⟨m - 1, by omega⟩
    have h1 := lw_last hS hR k i
    have h2 := lw_le S R i (show k ≤ m' by omega)
    have h3 := hS (i + k) (i + k + 1) (by omega)
    unfold via cst at h2
    rw [show m' + 1 - (k + 1) = m' - k by omega, show i + (k + 1) = i + k + 1 by omega]
    omega
def insS (S : Nat → Int) (p : Nat) : Nat → Int := fun j => if j ≤ p then S j else S (j - 1)
theorem lw_before {S R : Nat → Int} {p i m : Nat} (h : i + m ≤ p) : lw (insS S p) (insS R p) i m = lw S R i m := by
  refine (lw_shift (S := insS S p) (R := insS R p) (S' := S) (R' := R) (d := 0) (c := 0) (c' := 0) m i fun j h1 h2 => ?_).1
  unfold insS
  rw [if_pos (by omega), if_pos (by omega)]
  simp
theorem lw_behind {S R : Nat → Int} {p i m : Nat} (h : p < i) : lw S R (i - 1) m = lw (insS S p) (insS R p) i m := by
  have := (lw_shift (S := S) (R := R) (S' := insS S p) (R' := insS R p) (d := 1) (c := 0) (c' := 0) m (i - 1) fun j h1 h2 => ?_).1
  · rw [this, show i - 1 + 1 = i by omega]
  · unfold insS
    rw [if_neg (by omega), if_neg (by omega)]
    simp
theorem lw_ins {S R : Nat → Int} (hS : Mono S) (hR : Mono R) {p : Nat} : ∀ m i, i ≤ p → p ≤ i + m → lw S R i m ≤ lw (insS S p) (insS R p) i (m + 1) := by
  intro m
  induction m using Nat.strongRecOn with
  | ind m ih =>
    intro i hi hp
    rw [lw_succ (insS S p)]
    have hk2 := rt_le (insS S p) (insS R p) i m
    generalize rt (insS S p) (insS R p) i m = k at hk2 ⊢
    have sL : ∀ {F : Nat → Int} {j : Nat}, j ≤ p → insS F p j = F j := fun h => if_pos h
    have sR : ∀ {F : Nat → Int} {j : Nat}, p < j → insS F p j = F (j - 1) := fun h => if_neg (by omega)
    rcases Nat.lt_trichotomy (i + k) p with h | h | h
    · obtain ⟨m', rfl⟩ : ∃ m', m = m' + 1 := ⟨m - 1, by omega⟩
      have h1 := ih (m' - k) (by omega) (i + k + 1) (by omega) (by omega)
      rw [show m' - k + 1 = m' + 1 - k by omega] at h1
      have h2 := lw_le S R i (show k ≤ m' by omega)
      unfold via cst at *
      rw [lw_before (by omega), sL (F := S) (j := i + k + 1) (by omega), sL (F := S) (j := i) (by omega), sR (F := R) (j := i + (m' + 1 + 1)) (by omega), sL (F := R) (j := i + k) (by omega), show i + (m' + 1 + 1) - 1 = i + (m' + 1) by omega]
      omega
    · have h1 := lw_join hS hR (i := i) (m := m) (k := k) hk2
      unfold via cst
      rw [lw_before (by omega), ← lw_behind (by omega), sR (F := S) (j := i + k + 1) (by omega), sL (F := S) (j := i) (by omega), sR (F := R) (j := i + (m + 1)) (by omega), sL (F := R) (j := i + k) (by omega), show i + (m + 1) - 1 = i + m by omega, show i + k + 1 - 1 = i + k by omega]
      omega
    · obtain ⟨k', rfl⟩ : ∃ k', k = k' + 1 := ⟨k - 1, by omega⟩
      obtain ⟨m', rfl⟩ : ∃ m', m = m' + 1 := ⟨m - 1, by omega⟩
      have h1 := ih k' (by omega) i (by omega) (by omega)
      have h2 := lw_le S R i (show k' ≤ m' by omega)
      unfold via cst at *
      rw [← lw_behind (p := p) (i := i + (k' + 1) + 1) (by omega), sR (F := S) (j := i + (k' + 1) + 1) (by omega), sL (F := S) (j := i) (by omega), sR (F := R) (j := i + (m' + 1 + 1)) (by omega), sR (F := R) (j := i + (k' + 1)) (by omega), show i + (m' + 1 + 1) - 1 = i + (m' + 1) by omega, show i + (k' + 1) + 1 - 1 = i + k' + 1 by omega, show i + (k' + 1) - 1 = i + k' by omega, show m' + 1 - (k' + 1) = m' - k' by omega]
      omega
/-- sums of the first ones -/
def sm (l : List Int) (k : Nat) : Int := (l.take k).sum
theorem sm_zero (l : List Int) : sm l 0 = 0 := by simp [sm]
theorem sm_succ {l : List Int} {k : Nat} {x : Int} (h : l[k]? = some x) : sm l (k + 1) = sm l k + x := by
  unfold sm
  rw [List.take_add_one, h, Option.toList_some, List.sum_append]
  simp
theorem sm_mono {l : List Int} (h : ∀ x, x ∈ l → 0 ≤ x) : Mono (sm l) := by
  intro a b hab
  induction b with
  | zero => have : a = 0 := by omega
            subst this; exact Int.le_refl _
  | succ b ih =>
    by_cases e : a = b + 1
    · rw [e]; exact Int.le_refl _
    · have h1 := ih (by omega)
      cases hx : l[b]? with
      | none =>
        have : sm l (b + 1) = sm l b := by
          unfold sm
          rw [List.take_add_one, hx]
          simp
        omega
      | some x =>
        have := h x (List.mem_of_getElem? hx)
        rw [sm_succ hx]
        omega
end MB

set_option maxHeartbeats 4000000
namespace MB
open PySem PySem.Spec PyProof.Rows L2
/-! ### min of a list of pairs of ints -/
def dP (p : Int × Int) : PyData := .tuple [.int p.1, .int p.2]
theorem dP_toD (p : Int × Int) : PySem.W.Datum.toD p = dP p := rfl
theorem dP_map (ps : List (Int × Int)) : ps.map PySem.W.Datum.toD = ps.map dP := rfl
theorem depth_dP : ∀ ps : List (Int × Int), PyData.depthAll (ps.map dP) ≤ 1
  | [] => by simp [PyData.depthAll]
  | p :: ps => by
    have := depth_dP ps
    simp only [List.map_cons, PyData.depthAll, dP, PyData.depth] at *
    omega
theorem vals_at : ∀ {xs : List V} {its : List Value}, Vals xs its → ∀ {i : Nat} {v : Value}, its[i]? = some v → ∃ x, xs[i]? = some x ∧ RelV x v
  | _, _, .nil, i, v, h => by simp at h
  | _, _, .cons r rr, 0, v, h => by
    simp at h
    subst h
    exact ⟨_, rfl, r⟩
  | _, _, .cons r rr, i + 1, v, h => by
    obtain ⟨x, h1, h2⟩ := vals_at rr (i := i) (v := v) (by simpa using h)
    exact ⟨x, by simpa using h1, h2⟩
def rMinP (K : PySem.W.Frag) : List V → Hp → VK → Prop := fun xs H Q => ∃ (a : Addr) (us : List V) (p : Int × Int) (ps : List (Int × Int)), xs = [V.ref a] ∧ SqL K H a us ∧ DpAll K H us ((p :: ps).map dP) ∧ ∀ b, SqT K H b [V.int (PySem.W.minOf p ps).1, V.int (PySem.W.minOf p ps).2] → Q (.ref b) H
theorem minOf_mem (p : Int × Int) : ∀ ps : List (Int × Int), PySem.W.minOf p ps ∈ p :: ps := by
  intro ps
  unfold PySem.W.minOf
  induction ps generalizing p with
  | nil => simp
  | cons q ps ih =>
    rw [List.foldl_cons]
    have := ih (if PySem.W.DatumOrd.lt q p = true then q else p)
    rcases List.mem_cons.mp this with h | h
    · rw [h]
      split <;> simp
    · exact List.mem_cons_of_mem _ (List.mem_cons_of_mem _ h)
theorem cr_minP {X : Cx} {K : PySem.W.Frag} (hK : X.K = K) (hc : X.calm = true) (hu : X.A.units + 64 < cLine) : CallR X (.builtin "min") (rMinP K) := by
  subst hK
  intro pins s σ H vs us Q I r h
  obtain ⟨a, xs, p, ps, rfl, hs, hA, q⟩ := h
  obtain ⟨its, rv, hl, _⟩ := I.list hs
  rw [Vals.ref1 r]
  obtain ⟨as, rd⟩ := Dp.readsAll I _ _ its hA rv
  refine PySem.W.min_list_data (x := dP p) (xs := ps.map dP) (I.ok.hd hc) hl.isList (by simpa using rd) (PySem.W.alikeAll_datum (p :: ps)) ?_ fun i v h' tk bs hv hr hk => ?_
  · have := depth_dP (p :: ps)
    rw [List.map_cons] at this
    omega
  · have e := PySem.W.minD_map p ps
    rw [dP_map, dP_toD] at e
    rw [e, dP_toD] at hr
    generalize hm : PySem.W.minOf p ps = m at hr q
    obtain ⟨x, hx, rx⟩ := vals_at rv (i := i) (v := v) (by simpa using hv)
    have hi : i < ((p :: ps).map dP).length := by
      rw [← DpAll.len hA]
      exact (List.getElem?_eq_some_iff.mp hx).1
    obtain ⟨y, hy, hD⟩ := DpAll.get hA (List.getElem?_eq_getElem hi)
    rw [hx] at hy
    cases hy
    rw [List.getElem_map] at hD
    generalize (p :: ps)[i]'_ = pr at hD
    obtain ⟨m1, m2⟩ := m
    obtain ⟨n1, n2⟩ := pr
    obtain ⟨b, ys, rfl, hS, hB⟩ := Dp.tupInv hD
    have ey := dp_ints_inv (ns := [n1, n2]) hB
    subst ey
    cases rx
    obtain ⟨jts, rj, ho, _⟩ := I.tuple hS
    obtain ⟨o, ho1, ho2, n, ho3⟩ := ho
    have ho4 := hk _ _ ho1
    cases hr with
    | tuple g1 g2 g3 g4 =>
      rw [ho4] at g1
      cases g1
      rw [ho3] at g3
      cases g3
      cases rj with
      | cons r1 r2 =>
        cases r2 with
        | cons r3 r4 =>
          cases r4
          obtain ⟨t1, rfl⟩ := r1
          obtain ⟨t2, rfl⟩ := r3
          have e2 : (m1, m2) = (n1, n2) := by
            cases g4 with
            | cons k1 k2 =>
              cases k2 with
              | cons k3 k4 =>
                cases k1
                cases k3
                rfl
          refine ⟨.ref b, H, I.kept hk, rfl, q b ?_⟩
          rw [e2]
          exact hS
/-- the least pair, if the second ones ascend by one -/
theorem minOf_amin (f : Nat → Int) (b : Nat) : ∀ n, PySem.W.minOf (f 0, (b : Int)) ((List.range n).map fun j => (f (j + 1), ((b + (j + 1) : Nat) : Int))) = (f (amin f n), ((b + amin f n : Nat) : Int))
  | 0 => rfl
  | n + 1 => by
    have ih := minOf_amin f b n
    unfold PySem.W.minOf at ih ⊢
    rw [List.range_succ, List.map_append, List.foldl_append, ih]
    show (if (if f (n + 1) = f (amin f n) then decide (((b + (n + 1) : Nat) : Int) < ((b + amin f n : Nat) : Int)) else decide (f (n + 1) < f (amin f n))) = true then (f (n + 1), ((b + (n + 1) : Nat) : Int)) else (f (amin f n), ((b + amin f n : Nat) : Int))) = _
    have hl := amin_le f n
    have ea : amin f (n + 1) = if f (n + 1) < f (amin f n) then n + 1 else amin f n := rfl
    rw [ea]
    generalize amin f n = c at hl ⊢
    by_cases h1 : f (n + 1) = f c
    · rw [if_pos h1, if_neg (by simp; omega), if_neg (by omega)]
    · rw [if_neg h1]
      by_cases h2 : f (n + 1) < f c
      · rw [if_pos (by simpa using h2), if_pos h2]
      · rw [if_neg (by simpa using h2), if_neg h2]
/-! ### an index of a list or a tuple -/
def SqQ (K : PySem.W.Frag) (H : Hp) (a : Addr) (xs : List V) : Prop := SqL K H a xs ∨ SqT K H a xs
def rIxQ (K : PySem.W.Frag) : R2 := fun x y H Q => ∃ p xs i v, x = .ref p ∧ y = .int i ∧ SqQ K H p xs ∧ atI xs i = some v ∧ Q v H
theorem k_ixQ {X : Cx} {K : PySem.W.Frag} (hK : X.K = K) : IxR X (rIxQ K) := by
  subst hK
  intro value slice pins s σ H x y v u Q I rx ry h hs
  obtain ⟨p, xs, i, w, rfl, rfl, hq, ha, q⟩ := h
  rcases hq with hq | hq
  · exact ix_list value slice pins s σ H _ _ v u Q I rx ry ⟨p, xs, i, w, rfl, rfl, hq, ha, q⟩ hs
  · exact ix_tup value slice pins s σ H _ _ v u Q I rx ry ⟨p, xs, i, w, rfl, rfl, hq, ha, q⟩ hs
/-! ### zip of two tuples -/
theorem walk_zipT {K : PySem.W.Frag} {a b : Addr} {xs ys : List V} {n : Nat} (hn : n = min xs.length ys.length) : Walk (RZ.ItzT K a b) n (fun H => SqT K H a xs ∧ SqT K H b ys) (YPair (fun i => xs[i]?) (fun i => ys[i]?)) := by
  refine ⟨fun i H hi ⟨qx, qy⟩ => ⟨xs, ys, xs[i]'(by omega), ys[i]'(by omega), qx, qy, List.getElem?_eq_getElem (by omega), List.getElem?_eq_getElem (by omega)⟩, fun H ⟨qx, qy⟩ => ⟨xs, ys, qx, qy, by omega⟩, fun i H v H' hi ⟨qx, qy⟩ y => ?_⟩
  obtain ⟨T, u, z, e1, e2, e3, e4, e5⟩ := y
  exact ⟨T, u, z, e1, e2, e3, e4 xs qx, e5 ys qy⟩
end MB

set_option maxHeartbeats 4000000
namespace MB
open PySem PySem.Spec PyProof.Rows L2
/-- the least of some pairs -/
def minP : List (Int × Int) → Option (Int × Int)
  | [] => none
  | p :: ps => some (PySem.W.minOf p ps)
theorem minP_mem {l : List (Int × Int)} {p : Int × Int} (h : minP l = some p) : p ∈ l := by
  cases l with
  | nil => cases h
  | cons q l =>
    simp only [minP, Option.some.injEq] at h
    rw [← h]
    exact minOf_mem q l
theorem minP_none {l : List (Int × Int)} : minP l = none ↔ l = [] := by
  cases l <;> simp [minP]
/-! ### min(list of pairs, default=d) -/
def rMinPD (K : PySem.W.Frag) : List V → List V → Hp → VK → Prop := fun xs zs H Q => ∃ (a : Addr) (us : List V) (ps : List (Int × Int)) (z : V), xs = [V.ref a] ∧ zs = [z] ∧ SqL K H a us ∧ DpAll K H us (ps.map dP) ∧ (ps = [] → Q z H) ∧ ∀ p, minP ps = some p → ∀ b, SqT K H b [V.int p.1, V.int p.2] → Q (.ref b) H
theorem cr_minPD {X : Cx} {K : PySem.W.Frag} (hK : X.K = K) (hc : X.calm = true) (hu : X.A.units + 64 < cLine) : CallRK X (.builtin "min") [Str.ofString "default"] (rMinPD K) := by
  subst hK
  intro pins s σ H vs zs us ws Q I r rz h
  obtain ⟨a, xs, ps, z, rfl, rfl, hs, hA, q0, q1⟩ := h
  obtain ⟨its, rv, hl, _⟩ := I.list hs
  rw [Vals.ref1 r]
  obtain ⟨u, rfl, ru⟩ := vals1 rz
  obtain ⟨as, rd⟩ := Dp.readsAll I _ _ its hA rv
  refine PySem.W.min_list_default (xs := ps.map dP) (I.ok.hd hc) hl.isList (by simpa using rd) (PySem.W.alikeAll_datum ps) ?_ (fun e h' tk hk => ?_) fun y ys i v h' tk bs e hv hr hk => ?_
  · have := depth_dP ps
    omega
  · exact ⟨z, H, I.kept hk, ru, q0 (List.map_eq_nil_iff.mp e)⟩
  · cases ps with
    | nil => cases e
    | cons p ps =>
      rw [List.map_cons] at e
      cases e
      have e := PySem.W.minD_map p ps
      rw [dP_map, dP_toD] at e
      rw [e, dP_toD] at hr
      generalize hm : PySem.W.minOf p ps = m at hr
      have q2 := q1 m (by simp only [minP, hm])
      obtain ⟨x, hx, rx⟩ := vals_at rv (i := i) (v := v) (by simpa using hv)
      have hi : i < ((p :: ps).map dP).length := by
        rw [← DpAll.len hA]
        exact (List.getElem?_eq_some_iff.mp hx).1
      obtain ⟨y, hy, hD⟩ := DpAll.get hA (List.getElem?_eq_getElem hi)
      rw [hx] at hy
      cases hy
      rw [List.getElem_map] at hD
      generalize (p :: ps)[i]'_ = pr at hD
      obtain ⟨m1, m2⟩ := m
      obtain ⟨n1, n2⟩ := pr
      obtain ⟨b, ys, rfl, hS, hB⟩ := Dp.tupInv hD
      have ey := dp_ints_inv (ns := [n1, n2]) hB
      subst ey
      cases rx
      obtain ⟨jts, rj, ho, _⟩ := I.tuple hS
      obtain ⟨o, ho1, ho2, n, ho3⟩ := ho
      have ho4 := hk _ _ ho1
      cases hr with
      | tuple g1 g2 g3 g4 =>
        rw [ho4] at g1
        cases g1
        rw [ho3] at g3
        cases g3
        cases rj with
        | cons r1 r2 =>
          cases r2 with
          | cons r3 r4 =>
            cases r4
            obtain ⟨t1, rfl⟩ := r1
            obtain ⟨t2, rfl⟩ := r3
            have e2 : (m1, m2) = (n1, n2) := by
              cases g4 with
              | cons k1 k2 =>
                cases k2 with
                | cons k3 k4 =>
                  cases k1
                  cases k3
                  rfl
            refine ⟨.ref b, H, I.kept hk, rfl, q2 b ?_⟩
            rw [e2]
            exact hS
end MB

set_option maxHeartbeats 4000000
namespace MB
open PySem PySem.Spec PyProof.Rows L2
/-! ### zip of a tuple and a list -/
def ItzM (K : PySem.W.Frag) (a b : Addr) : It where
  go := fun i H => ∃ xs ys x y, SqT K H a xs ∧ SqL K H b ys ∧ xs[i]? = some x ∧ ys[i]? = some y
  yld := fun i H v H' => ∃ N x y, v = .ref N ∧ H N = none ∧ H' = upd H N (.tup [x, y]) ∧ (∀ xs, SqT K H a xs → xs[i]? = some x) ∧ (∀ ys, SqL K H b ys → ys[i]? = some y)
  stop := fun i H => ∃ xs ys, SqT K H a xs ∧ SqL K H b ys ∧ i = min xs.length ys.length
theorem apart_sep {z TI TO i1 i2 a b : Addr} (D : ZipApart z TI TO i1 i2 a b) (ha : a ≠ TO) (hb : b ≠ TO) (hb1 : b ≠ i1) (ha2 : a ≠ i2) (haz : a ≠ z) (hbz : b ≠ z) : ZipSep2 z TI TO i1 i2 [i1, a] [i2, b] where
  TIz := D.TIz
  TOz := D.TOz
  TITO := D.TITO
  TIi1 := D.TIi1
  TIi2 := D.TIi2
  mem1 := by simp
  mem2 := by simp
  zf1 := by simp only [List.mem_cons, List.not_mem_nil, or_false, not_or]; exact ⟨D.i1z.symm, haz.symm⟩
  zf2 := by simp only [List.mem_cons, List.not_mem_nil, or_false, not_or]; exact ⟨D.i2z.symm, hbz.symm⟩
  Tf1 := by simp only [List.mem_cons, List.not_mem_nil, or_false, not_or]; exact ⟨D.TOi1, ha.symm⟩
  Tf2 := by simp only [List.mem_cons, List.not_mem_nil, or_false, not_or]; exact ⟨D.TOi2, hb.symm⟩
  sep1_2 := by simp only [List.mem_cons, List.not_mem_nil, or_false, not_or]; exact ⟨D.i12, hb1.symm⟩
  sep2_1 := by simp only [List.mem_cons, List.not_mem_nil, or_false, not_or]; exact ⟨D.i12.symm, ha2.symm⟩
def StM (z TI TO i1 i2 a b : Addr) (i : Nat) (h : Heap) : Prop := IsZip h z TI TO .none ∧ IsPair h TI (.ref i1) (.ref i2) ∧ (∃ x y, IsPair h TO x y) ∧ h.IsTupleIter i1 a i ∧ h.IsListIter i2 b i
theorem in5 {c z TI TO i1 i2 : Addr} (h : c ∈ [z, TI, TO, i1, i2]) : c = z ∨ c = TI ∨ c = TO ∨ c = i1 ∨ c = i2 := by simpa using h
theorem turn_zipM {P : Program} {w : World} {K : PySem.W.Frag} {elts : List Expr} {kk : Nat} {tpos : Pos} {a b z TI TO i1 i2 : Addr} (D : ZipApart z TI TO i1 i2 a b) (S : ZipSep2 z TI TO i1 i2 [i1, a] [i2, b]) (hai : a ≠ i1) (hbi : b ≠ i2) :
    Turn P w K (.Tuple elts kk tpos) (ItzM K a b) [z, TI, TO, i1, i2] z (StM z TI TO i1 i2 a b) where
  mem := List.mem_cons_self ..
  obj := fun i h st c hc => by
    obtain ⟨q1, q2, ⟨x, y, q3⟩, ⟨o1, q4, _, q5⟩, ⟨o2, q6, _, q7⟩⟩ := st
    rcases in5 hc with e | e | e | e | e <;> subst e
    · exact ⟨_, q1, fun v e => nomatch e⟩
    · exact ⟨_, q2, fun v e => nomatch e⟩
    · exact ⟨_, q3, fun v e => nomatch e⟩
    · exact ⟨o1, q4, fun v e => by rw [q5] at e; cases e⟩
    · exact ⟨o2, q6, fun v e => by rw [q7] at e; cases e⟩
  keep := fun i h h' ⟨q1, q2, ⟨x, y, q3⟩, q4, q5⟩ k =>
    ⟨k z (by simp) _ q1, k TI (by simp) _ q2, ⟨x, y, k TO (by simp) _ q3⟩, q4.at fun o e => k i1 (by simp) o e, q5.at fun o e => k i2 (by simp) o e⟩
  item := by
    intro X hP hw hK hc i pins s σ H E I hf st hg
    subst hP hw hK
    obtain ⟨q1, q2, ⟨x0, y0, q3⟩, q4, q5⟩ := st
    obtain ⟨xs, ys, x, y, sx, sy, gx, gy⟩ := hg
    obtain ⟨its, rv, tp, _⟩ := I.tuple sx
    obtain ⟨jts, rw', lp, _⟩ := I.list sy
    obtain ⟨u, hu, ru⟩ := rv.get gx
    obtain ⟨v, hv, rv'⟩ := rw'.get gy
    have zl : z < s.heap.objs.size := Heap.lt_size q1
    have hi1 : i < its.toArray.size := by
      have := (List.getElem?_eq_some_iff.mp hu).1
      simpa using this
    have hi2 : i < jts.toArray.size := by
      have := (List.getElem?_eq_some_iff.mp hv).1
      simpa using this
    refine wpAny_pyNext_zipD2_item S (Draws.tuple (prog := X.prog) (w := X.w) (A := X.A.in1) (I.ok.hd hc) i1 a hai its.toArray) (Draws.list (prog := X.prog) (w := X.w) (A := X.A.in1) (I.ok.hd hc) i2 b hbi jts.toArray) q1 q2 q3 ⟨q4, tp⟩ ⟨q5, lp.isList⟩ hi1 hi2 fun u' v' h' tk e1 e2 z' TO' s1' s2' hT hsz hk => ?_
    have eu : u' = u := by
      rw [List.getElem?_toArray, hu] at e1
      exact (Option.some.inj e1).symm
    have ev : v' = v := by
      rw [List.getElem?_toArray, hv] at e2
      exact (Option.some.inj e2).symm
    subst eu ev
    refine ⟨_, rfl, wpAny_letOwnedTupleGo_zip (s := { s with heap := h', toks := tk }) z' fun h'' z'' sb => ?_⟩
    have hT2 := (sb.2 _ (Nat.ne_of_gt zl)).trans hT
    have new : ObjOk X.prog X.w (upd H s.heap.objs.size (.tup [x, y])) h'' s.heap.objs.size (.tup [x, y]) := ⟨by show 2 ≤ sizeLine; decide, [u', v'], .cons ru (.cons rv' .nil), ⟨_, hT2, rfl, _, rfl⟩⟩
    have hk2 : ∀ c o, c ∉ [z, TI, TO, i1, i2] → s.heap.get? c = some o → h''.get? c = some o := fun c o hb e => by
      simp only [List.mem_cons, List.not_mem_nil, or_false, not_or] at hb
      exact (sb.2 c hb.1).trans (hk c o hb.1 hb.2.2.1 hb.2.2.2.1 hb.2.2.2.2 e)
    have I1 : Inv X pins σ (upd H s.heap.objs.size (.tup [x, y])) { s with heap := h'', toks := tk } := I.turnedNew (t' := tk) (ch := [z, TI, TO, i1, i2]) hk2 hf (Nat.le_refl _) new
    refine ⟨.ref s.heap.objs.size, _, I1, rfl, ⟨s.heap.objs.size, x, y, rfl, I.hok.fresh (Nat.le_refl _), rfl, fun l hl => ?_, fun l hl => ?_⟩, ⟨z'', (sb.2 TI D.TIz).trans (hk TI _ D.TIz D.TITO D.TIi1 D.TIi2 q2), ⟨u', v', (sb.2 TO D.TOz).trans TO'⟩, s1'.1.at fun o e => (sb.2 i1 D.i1z).trans e, s2'.1.at fun o e => (sb.2 i2 D.i2z).trans e⟩, fun c hcm => ?_⟩
    · rw [I.tuple_inj hl sx]; exact gx
    · rw [I.list_inj hl sy]; exact gy
    · have cl : c < s.heap.objs.size := by
        obtain ⟨o1, d1, _⟩ := q4
        obtain ⟨o2, d2, _⟩ := q5
        rcases in5 hcm with e | e | e | e | e <;> rw [e]
        · exact zl
        · exact Heap.lt_size q2
        · exact Heap.lt_size q3
        · exact Heap.lt_size d1
        · exact Heap.lt_size d2
      rw [upd_ne (Nat.ne_of_lt cl)]
      exact (hf c hcm).1
  done := by
    intro X hP hw hK hc i pins s σ H E I hf st hg
    subst hP hw hK
    obtain ⟨q1, q2, ⟨x0, y0, q3⟩, q4, q5⟩ := st
    obtain ⟨xs, ys, sx, sy, gend⟩ := hg
    obtain ⟨its, rv, tp, _⟩ := I.tuple sx
    obtain ⟨jts, rw', lp, _⟩ := I.list sy
    have e1 := rv.length
    have e2 := rw'.length
    have hl1 : its.toArray.size = xs.length := by simp [e1]
    have hl2 : jts.toArray.size = ys.length := by simp [e2]
    refine wpAny_pyNext_zipD2_end S (Draws.tuple (prog := X.prog) (w := X.w) (A := X.A.in1) (I.ok.hd hc) i1 a hai its.toArray) (Draws.list (prog := X.prog) (w := X.w) (A := X.A.in1) (I.ok.hd hc) i2 b hbi jts.toArray) q1 q2 q3 ⟨q4, tp⟩ ⟨q5, lp.isList⟩ (by omega) (by omega) (by omega) fun h' tk hk => ⟨rfl, I.turnedL (t' := tk) (ch := [z, TI, TO, i1, i2]) (fun c o hb e => ?_) hf⟩
    simp only [List.mem_cons, List.not_mem_nil, or_false, not_or] at hb
    exact hk c o hb.1 hb.2.2.1 hb.2.2.2.1 hb.2.2.2.2 e
  self := fun A i s Q E st h => wpAny_pyIter_zip st.1 h
theorem walk_zipM {K : PySem.W.Frag} {a b : Addr} {xs ys : List V} {n : Nat} (hn : n = min xs.length ys.length) : Walk (ItzM K a b) n (fun H => SqT K H a xs ∧ SqL K H b ys) (YPair (fun i => xs[i]?) (fun i => ys[i]?)) := by
  refine ⟨fun i H hi ⟨qx, qy⟩ => ⟨xs, ys, xs[i]'(by omega), ys[i]'(by omega), qx, qy, List.getElem?_eq_getElem (by omega), List.getElem?_eq_getElem (by omega)⟩, fun H ⟨qx, qy⟩ => ⟨xs, ys, qx, qy, by omega⟩, fun i H v H' hi ⟨qx, qy⟩ y => ?_⟩
  obtain ⟨T, u, z, e1, e2, e3, e4, e5⟩ := y
  exact ⟨T, u, z, e1, e2, e3, e4 xs qx, e5 ys qy⟩
/-! its making -/
abbrev zmH1 (h : Heap) (a : Addr) : Heap := h.push { cls := .type "tuple_iterator", data := .fields #[.ref a, .int 0 0] }
abbrev zmH2 (h : Heap) (a b : Addr) : Heap := (zmH1 h a).push { cls := .type "list_iterator", data := .fields #[.ref b, .int 0 0] }
abbrev zmH3 (h : Heap) (a b : Addr) : Heap := (zmH2 h a b).push { cls := .type "tuple", data := .seq #[.ref h.objs.size, .ref (zmH1 h a).objs.size] }
abbrev zmH4 (h : Heap) (a b : Addr) : Heap := (zmH3 h a b).push { cls := .type "tuple", data := .seq #[.none, .none] }
abbrev zmH5 (h : Heap) (a b : Addr) : Heap := (zmH4 h a b).push { cls := .type "zip", data := .fields #[.none, .bool false, .bool false, .ref (zmH2 h a b).objs.size, .ref (zmH3 h a b).objs.size] }
theorem meets_zipM (a b : Addr) (xs ys : Array Value) :
    Meets (Builtin.«zip.__new__» ⟨[.type "zip", .ref a, .ref b], []⟩) (fun _ R s => s.heap.IsTuple a xs ∧ s.heap.IsList b ys ∧ R (.ok (.ret (.ref (zmH4 s.heap a b).objs.size))) { s with heap := zmH5 s.heap a b }) :=
  .of_wp fun prog w A R s h => by
    obtain ⟨hp, g, d, tk, os⟩ := s
    obtain ⟨ha, hb, h⟩ := h
    have hsub := sub_zip
    have hA : Heap.IsTuple (Shared.heap ⟨hp, g, d, tk, os⟩) a xs := ha
    have hB : Heap.IsList (Shared.heap ⟨hp.push { cls := .type "tuple_iterator", data := .fields #[.ref a, .int 0 0] }, g, d, tk, os⟩) b ys := Heap.IsList.push hb _
    wp_walk using wpAny_pyIter_tuple hA, wpAny_pyIter_list hB
    exact ⟨_, rfl, h⟩
section
variable {prog : Program} {w : World} {A : Around} {E : Value → Shared → Prop} {s : Shared}
theorem call_zipM {a b : Addr} {xs ys : Array Value} {Q : Value → Shared → Prop} (ha : s.heap.IsTuple a xs) (hb : s.heap.IsList b ys)
    (h : ∀ h', StM (s.heap.objs.size + 4) (s.heap.objs.size + 2) (s.heap.objs.size + 3) s.heap.objs.size (s.heap.objs.size + 1) a b 0 h' → (∀ c o, s.heap.get? c = some o → h'.get? c = some o) → Q (.ref (s.heap.objs.size + 4)) { s with heap := h' }) :
    wpAny (model prog w) A (call (.type "zip") [.ref a, .ref b]) Q E s := by
  refine callType_new F.called_zip (by decide) (F.typeCall_zip_2 _ _) (F.newCall_zip_2 _ _) (fun obj => F.args_object_init_3 obj _ _) F.entry_zip_new (meets_zipM a b xs ys) ⟨ha, hb, ?_⟩
  have n1 : (zmH1 s.heap a).objs.size = s.heap.objs.size + 1 := Heap.size_push _ _
  have n2 : (zmH2 s.heap a b).objs.size = s.heap.objs.size + 2 := (Heap.size_push _ _).trans (by rw [n1])
  have n3 : (zmH3 s.heap a b).objs.size = s.heap.objs.size + 3 := (Heap.size_push _ _).trans (by rw [n2])
  have n4 : (zmH4 s.heap a b).objs.size = s.heap.objs.size + 4 := (Heap.size_push _ _).trans (by rw [n3])
  have k5 : (zmH5 s.heap a b).get? (zmH4 s.heap a b).objs.size = some _ := Heap.get?_push_size _ rfl
  have k4 : (zmH5 s.heap a b).get? (zmH3 s.heap a b).objs.size = some _ := Heap.get?_push_of_some _ (Heap.get?_push_size _ rfl)
  have k3 : (zmH5 s.heap a b).get? (zmH2 s.heap a b).objs.size = some _ := Heap.get?_push_of_some _ (Heap.get?_push_of_some _ (Heap.get?_push_size _ rfl))
  have k2 : (zmH5 s.heap a b).get? (zmH1 s.heap a).objs.size = some _ := Heap.get?_push_of_some _ (Heap.get?_push_of_some _ (Heap.get?_push_of_some _ (Heap.get?_push_size _ rfl)))
  have k1 : (zmH5 s.heap a b).get? s.heap.objs.size = some _ := Heap.get?_push_of_some _ (Heap.get?_push_of_some _ (Heap.get?_push_of_some _ (Heap.get?_push_of_some _ (Heap.get?_push_size _ rfl))))
  show _ ∧ _
  rw [n2, n3, n4] at k5
  rw [n3] at k4
  rw [n1, n2] at k3
  rw [n1] at k2
  rw [n4]
  have kept : ∀ c o, s.heap.get? c = some o → (zmH5 s.heap a b).get? c = some o := fun c o e => by
    iterate 5 refine Heap.get?_push_of_some _ ?_
    exact e
  exact ⟨⟨_, k5, rfl⟩, h _ ⟨k5, k3, ⟨_, _, k4⟩, ⟨_, k1, rfl, rfl⟩, ⟨_, k2, rfl, rfl⟩⟩ kept⟩
end
def iZipM (K : PySem.W.Frag) (ta : TA) : TI := fun σ H R => ta σ H fun vs H1 => ∃ a b xs ys, vs = [.ref a, .ref b] ∧ SqT K H1 a xs ∧ SqL K H1 b ys ∧ R (ItzM K a b) H1
theorem ne5 {n c : Nat} (h : c < n) : c ≠ n ∧ c ≠ n + 1 ∧ c ≠ n + 3 ∧ c ≠ n + 4 := by omega
theorem pi_zipM {X : Cx} {K : PySem.W.Frag} (hK : X.K = K) {e e2 : Expr} {ta : TA} {p pos tpos : Pos} {elts : List Expr} {kk : Nat} (hg : Gl X "zip") (hm : X.mg "zip" = none) (ha : PA X [e, e2] ta) (hs : starEach [e, e2] X.env = (false, eval e X.env) :: starEach [e2] X.env := by rfl)
    (hpl : (backTo pos (starEach [e2] X.env)).any (·.1) = false := by rfl) : PI X (.Tuple elts kk tpos) (.Call (.Name "zip" p) [e, e2] [] pos) (iZipM K ta) := by
  subst hK
  refine ⟨fun pins s σ H R I h => ?_⟩
  refine Call_ (ld_blt I hg hm PyProof.Rows.boot_zip (PyProof.Rows.callWith_type1 (thn (ha.run pos pins s σ H _ I h) fun us s1 ⟨vs, H1, I1, r1, q1⟩ => ?_) hs hpl))
  obtain ⟨a, b, xs, ys, rfl, sx, sy, q⟩ := q1
  cases r1 with
  | cons r2 r3 =>
    cases r3 with
    | cons r4 r5 =>
      cases r5
      cases r2
      cases r4
      obtain ⟨its, rv, tp, _⟩ := I1.tuple sx
      obtain ⟨jts, rw', lp, _⟩ := I1.list sy
      obtain ⟨o1, d1, _⟩ := id tp
      have al := ne5 (Heap.lt_size d1)
      have bl := ne5 lp.lt
      have D := PySem.W.ktu_apart s1.heap.objs.size a b (Heap.lt_size d1) lp.lt
      refine call_zipM (show s1.heap.IsTuple a its.toArray from tp) lp.isList fun h' st hk => wpAny_pyIter_zip st.1 ?_
      have I2 : Inv X pins σ H1 { s1 with heap := h' } := I1.kept (t' := s1.toks) hk
      refine ⟨s1.heap.objs.size + 4, [s1.heap.objs.size + 4, s1.heap.objs.size + 2, s1.heap.objs.size + 3, s1.heap.objs.size, s1.heap.objs.size + 1], _, _, H1, rfl, I2, turn_zipM D (apart_sep D al.2.2.1 bl.2.2.1 bl.1 al.2.1 al.2.2.2 bl.2.2.2) al.1 bl.2.1, st, fun c hc => ?_, q⟩
      have cl : s1.heap.objs.size ≤ c := by
        rcases in5 hc with z | z | z | z | z <;> rw [z] <;> first | exact Nat.le_refl _ | exact Nat.le_add_right _ _
      exact I1.fpOk cl (I1.hok.fresh cl)
end MB

set_option maxHeartbeats 4000000
namespace MB
open PySem PySem.Spec PyProof.Rows L2
/-! ### a tuple times a number from 1 on -/
theorem tuple_mul1 (l : Addr) (items : Array Value) (n : Nat) (dd : Option Addr) (sl : Array (Option Value)) (u : Tok) :
    Meets (Builtin.«tuple.__mul__» ⟨[.ref l, .int 1 u], []⟩) (fun _ R s => s.heap.get? l = some { cls := .type "tuple", dict := dd, data := .seq items n, slots := sl } ∧ R (.ok (.ret (Value.ref l))) s) :=
  .of_wp fun prog w A R s h => by
    obtain ⟨hp, g, d, tk, os⟩ := s
    obtain ⟨hl, h⟩ := h
    have f1 := AutoSeq1.idx_int
    have c1 : (items.isEmpty || ((1 : Int) == 1)) = true := by simp
    wp_walk using wpAny_loadPart' hl
    exact ⟨_, rfl, h⟩
def rRepQ (K : PySem.W.Frag) : R2 := fun x y H Q => ∃ l k xs, x = .ref l ∧ y = .int k ∧ SqT K H l xs ∧ xs ≠ [] ∧ 1 ≤ k ∧ k ≤ 1000 ∧ xs.length ≤ 1000 ∧ (k = 1 → Q (.ref l) H) ∧ ∀ p, H p = none → Q (.ref p) (upd H p (.tup (List.replicate k.toNat xs).flatten))
theorem op_repQ {X : Cx} : OpR X (binaryOp .Mult) (rRepQ X.K) := by
  intro pins s σ H x y v u Q I rx ry h
  obtain ⟨l, k, xs, rfl, rfl, hT, hne, g1, g2, hz, q1, q⟩ := h
  by_cases hk : k = 1
  · subst hk
    cases rx
    obtain ⟨t, rfl⟩ := ry
    obtain ⟨its, r, ⟨⟨cls, dd, data, sl⟩, ho, hc, n, hd⟩, hs⟩ := I.tuple hT
    simp only at hc hd
    subst hc hd
    refine wpAny_binaryOp_repeat_ref (T := "tuple") (U := "int") (by decide) ⟨_, ho, rfl⟩ (fun s' => typeIs_int s' 1 t) noFill_tuple_mul F.fills_int_mul F.slot_int_rmul repeat_tuple F.slot_int_index.lookup (call_meets F.slot_int_rmul (typeIs_int s 1 t) F.entry_int_rmul (F.args_int_rmul_2 _ _) (int_rmul_tuple 1 t l its.toArray n dd sl) ⟨ho, rfl, ⟨_, ho, rfl⟩, ?_⟩)
    exact call_meets F.slot_tuple_mul ⟨_, ho, rfl⟩ F.entry_tuple_mul (F.args_tuple_mul_2 _ _) (tuple_mul1 l its.toArray n dd sl t) ⟨ho, .ref l, H, I, rfl, q1 rfl⟩
  · exact op_repT pins s σ H _ _ v u Q I rx ry ⟨l, k, xs, rfl, rfl, hT, hne, by omega, g2, hz, q⟩
theorem rep_read {K : PySem.W.Frag} {H : Hp} {l : Addr} {k : Int} {xs : List V} {Q : VK} (h : SqT K H l xs) (hn : xs ≠ []) (h1 : 1 ≤ k) (h2 : k ≤ 1000) (hz : xs.length ≤ 1000) (q : ∀ p H', Same H H' → SqT K H' p (List.replicate k.toNat xs).flatten → Q (.ref p) H') : rRepQ K (.ref l) (.int k) H Q := by
  refine ⟨l, k, xs, rfl, rfl, h, hn, h1, h2, hz, fun e => q l H (Same.refl H) ?_, fun p np => q p _ (same_upd np) (.inl (.inl upd_same))⟩
  rw [e]
  simpa using h
end MB

set_option maxHeartbeats 4000000
namespace MB
open PySem PySem.Spec PyProof.Rows L2
/-! ### a tuple times a number from 0 on -/
theorem tuple_mul0 (l : Addr) (items : Array Value) (n : Nat) (dd : Option Addr) (sl : Array (Option Value)) (u : Tok) (hi : items.isEmpty = false) :
    Meets (Builtin.«tuple.__mul__» ⟨[.ref l, .int 0 u], []⟩) (fun _ R s => s.heap.get? l = some { cls := .type "tuple", dict := dd, data := .seq items n, slots := sl } ∧
      R (.ok (.ret (Value.ref s.heap.objs.size))) { s with heap := s.heap.push { cls := Value.type "tuple", data := Data.seq #[] } }) :=
  .of_wp fun prog w A R s h => by
    obtain ⟨hp, g, d, tk, os⟩ := s
    obtain ⟨hl, h⟩ := h
    have f1 := AutoSeq1.idx_int
    have c1 : (items.isEmpty || ((0 : Int) == 1)) = false := by rw [hi]; rfl
    have c2 : (decide ((0 : Int) ≤ 0) || items.isEmpty) = true := by simp
    wp_walk using wpAny_loadPart' hl
    repeat (first
      | (refine wpAny_ite_false (decide_eq_false (by rw [c1]; exact Bool.false_ne_true)) ?_; wp_walk using wpAny_loadPart' hl)
      | (refine wpAny_ite_true (decide_eq_true c2) ?_; wp_walk using wpAny_loadPart' hl))
    exact ⟨_, rfl, h⟩
def rRepZ (K : PySem.W.Frag) : R2 := fun x y H Q => ∃ l k xs, x = .ref l ∧ y = .int k ∧ SqT K H l xs ∧ xs ≠ [] ∧ 0 ≤ k ∧ k ≤ 1000 ∧ xs.length ≤ 1000 ∧ (k = 1 → Q (.ref l) H) ∧ ∀ p, H p = none → Q (.ref p) (upd H p (.tup (List.replicate k.toNat xs).flatten))
theorem op_repZ {X : Cx} : OpR X (binaryOp .Mult) (rRepZ X.K) := by
  intro pins s σ H x y v u Q I rx ry h
  obtain ⟨l, k, xs, rfl, rfl, hT, hne, g1, g2, hz, q1, q⟩ := h
  by_cases hk : k = 0
  · subst hk
    cases rx
    obtain ⟨t, rfl⟩ := ry
    obtain ⟨its, r, ⟨⟨cls, dd, data, sl⟩, ho, hc, n, hd⟩, hs⟩ := I.tuple hT
    simp only at hc hd
    subst hc hd
    have hle : its.length = xs.length := r.length.symm
    have hi : its.toArray.isEmpty = false := by
      cases its with
      | nil => exact absurd (List.eq_nil_of_length_eq_zero hle.symm) hne
      | cons a b => rfl
    refine wpAny_binaryOp_repeat_ref (T := "tuple") (U := "int") (by decide) ⟨_, ho, rfl⟩ (fun s' => typeIs_int s' 0 t) noFill_tuple_mul F.fills_int_mul F.slot_int_rmul repeat_tuple F.slot_int_index.lookup (call_meets F.slot_int_rmul (typeIs_int s 0 t) F.entry_int_rmul (F.args_int_rmul_2 _ _) (int_rmul_tuple 0 t l its.toArray n dd sl) ⟨ho, rfl, ⟨_, ho, rfl⟩, ?_⟩)
    refine call_meets F.slot_tuple_mul ⟨_, ho, rfl⟩ F.entry_tuple_mul (F.args_tuple_mul_2 _ _) (tuple_mul0 l its.toArray n dd sl t hi) ⟨ho, ?_⟩
    refine ⟨.ref s.heap.objs.size, _, I.laid (t' := s.toks) (o := .tup []) (fun b ob q => Heap.get?_push_of_some _ q) (Nat.le_refl _) ?_, rfl, q _ (I.hok.fresh (Nat.le_refl _))⟩
    exact ⟨Nat.zero_le _, [], .nil, IsTup.new _ _⟩
  · exact op_repQ pins s σ H _ _ v u Q I rx ry ⟨l, k, xs, rfl, rfl, hT, hne, by omega, g2, hz, q1, q⟩
theorem k_repZ {X : Cx} {K : PySem.W.Frag} (hK : X.K = K) : OpR X (binaryOp .Mult) (rRepZ K) := by subst hK; exact op_repZ
theorem repZ_read {K : PySem.W.Frag} {H : Hp} {l : Addr} {k : Nat} {xs : List V} {Q : VK} (h : SqT K H l xs) (hn : xs ≠ []) (h2 : k ≤ 1000) (hz : xs.length ≤ 1000) (q : ∀ p H', Same H H' → SqT K H' p (List.replicate k xs).flatten → Q (.ref p) H') : rRepZ K (.ref l) (.int (k : Int)) H Q := by
  refine ⟨l, (k : Int), xs, rfl, rfl, h, hn, by omega, by omega, hz, fun e => q l H (Same.refl H) ?_, fun p np => q p _ (same_upd np) (by rw [Int.toNat_natCast]; exact .inl (.inl upd_same))⟩
  have : k = 1 := by omega
  rw [this]
  simpa using h
end MB

set_option maxHeartbeats 4000000
namespace MB
open PySem PySem.Spec PyProof.Rows L2
/-! ### dicts whose keys are tuples of ints, by the data of the keys -/
abbrev KX := List (List Int × Addr × V)
def RX : KX → List (List Int × Addr × Value) → Prop := Paired fun p q => p.1 = q.1 ∧ p.2.1 = q.2.1 ∧ RelV p.2.2 q.2.2
def kvX (L : KX) : List (List Int × V) := L.map fun x => (x.1, x.2.2)
def putX (L : KX) (k : List Int) (b : Addr) (v : V) : KX :=
  if ((kvX L).any fun kv => decide (kv.1 = k)) = true then L.map (fun x => if x.1 = k then (x.1, x.2.1, v) else x) else L ++ [(k, b, v)]
theorem kvX_put (L : KX) (k : List Int) (b : Addr) (v : V) : kvX (putX L k b v) = putK (kvX L) k v := by
  unfold putX putK
  split
  · unfold kvX
    rw [List.map_map, List.map_map]
    refine List.map_congr_left fun x _ => ?_
    by_cases h : x.1 = k <;> simp [h]
  · simp [kvX]
theorem putX_key {L : KX} {k : List Int} {b : Addr} {v : V} {x : List Int × Addr × V} (h : x ∈ putX L k b v) : (∃ y ∈ L, x.1 = y.1 ∧ x.2.1 = y.2.1) ∨ (x.1 = k ∧ x.2.1 = b) := by
  unfold putX at h
  split at h
  · obtain ⟨y, hy, rfl⟩ := List.mem_map.mp h
    refine .inl ⟨y, hy, ?_⟩
    split <;> exact ⟨rfl, rfl⟩
  · rcases List.mem_append.mp h with h | h
    · exact .inl ⟨x, h, rfl, rfl⟩
    · simp only [List.mem_singleton] at h
      subst h
      exact .inr ⟨rfl, rfl⟩
theorem RX.val {L : KX} {xs : List (List Int × Addr × Value)} (r : RX L xs) (k : List Int) : RelO (valV (kvX L) k) ((atKey xs k).map (·.2)) := by
  unfold RX at r
  induction r with
  | nil => exact True.intro
  | @cons p q ps qs h t ih =>
    obtain ⟨h1, _, h2⟩ := h
    show RelO (valV ((p.1, p.2.2) :: kvX ps) k) _
    by_cases e : p.1 = k
    · have e' : q.1 = k := h1.symm.trans e
      have b : atKey (q :: qs) k = some q.2 := by simp [atKey, List.find?_cons, e']
      rw [valV_pos (p := (p.1, p.2.2)) e, b]; exact h2
    · have e' : ¬ q.1 = k := fun z => e (h1.trans z)
      have b : atKey (q :: qs) k = atKey qs k := by simp [atKey, List.find?_cons, e']
      rw [valV_neg (p := (p.1, p.2.2)) e, b]; exact ih
theorem RX.repl {L : KX} {xs : List (List Int × Addr × Value)} (r : RX L xs) (k : List Int) {y : V} {u : Value} (ry : RelV y u) :
    RX (L.map fun x => if x.1 = k then (x.1, x.2.1, y) else x) (xs.map (putAt k u)) := by
  unfold RX at r ⊢
  induction r with
  | nil => exact .nil
  | @cons p q ps qs h t ih =>
    rw [List.map_cons, List.map_cons]
    refine .cons ?_ ih
    obtain ⟨h1, h2, h3⟩ := h
    unfold putAt
    by_cases e : p.1 = k
    · rw [if_pos e, if_pos (h1.symm.trans e)]; exact ⟨h1, h2, ry⟩
    · rw [if_neg e, if_neg (fun z => e (h1.trans z))]; exact ⟨h1, h2, h3⟩
theorem RX.put {L : KX} {xs : List (List Int × Addr × Value)} (r : RX L xs) (k : List Int) {b : Addr} {y : V} {u : Value} (ry : RelV y u) : RX (putX L k b y) (storedH xs k b u) := by
  have e : ((kvX L).any fun kv => decide (kv.1 = k)) = (atKey xs k).isSome := by
    rw [valV_any, (r.val k).isSome_eq, Option.isSome_map]
  unfold putX storedH
  rw [e]
  by_cases q : (atKey xs k).isSome = true
  · rw [if_pos q, if_pos q]; exact r.repl k ry
  · rw [if_neg q, if_neg q]; exact Paired.snoc r ⟨rfl, rfl, ry⟩
theorem RX.len {L : KX} {xs : List (List Int × Addr × Value)} (r : RX L xs) : L.length = xs.length := Paired.length r
theorem kvX_len (L : KX) : (kvX L).length = L.length := by simp [kvX]
def DX0 (P : Program) (w : World) (h : Heap) (d : Addr) (L : KX) : Prop := L.length ≤ sizeLine ∧ (d == sysModules) = false ∧ ∃ xs, RX L xs ∧
  ∃ o es ep, h.get? d = some o ∧ o.ExactDict ∧ o.data = .dict es ep ∧ es.toList = xs.map (entryOfKey (tupleKind (intKind P w))) ∧ (xs.map (·.1)).Nodup
def DXO (P : Program) (w : World) (d : Addr) (L : KX) : HO := .ext fun h => DX0 P w h d L
theorem dx_new {P : Program} {w : World} {H : Hp} {h : Heap} {d : Addr} {L : KX} (R : DX0 P w h d L) : ObjOk P w H h d (DXO P w d L) := by
  have ⟨z, y, xs, r, o, es, ep, ho, q⟩ := R
  refine ⟨R, ⟨o, ho⟩, fun h1 h2 p k => ?_⟩
  have ⟨z', y', xs', r', o', es', ep', ho', q'⟩ := p
  exact ⟨z', y', xs', r', o', es', ep', k o' ho', q'⟩
/-- at d stands a dict with the keys and values kvs -/
def DN (K : PySem.W.Frag) (P : Program) (w : World) (H : Hp) (d : Addr) (kvs : List (List Int × V)) : Prop :=
  ∃ L : KX, H d = some (DXO P w d L) ∧ (∀ x ∈ L, SqT K H x.2.1 (x.1.map V.int)) ∧ kvX L = kvs
theorem DN.same {K : PySem.W.Frag} {P : Program} {w : World} {H H' : Hp} {d : Addr} {kvs : List (List Int × V)} (g : DN K P w H d kvs) (s : Same H H') : DN K P w H' d kvs := by
  obtain ⟨L, h1, h2, h3⟩ := g
  exact ⟨L, s _ _ h1, fun x hx => Same.tup s (h2 x hx), h3⟩
theorem DN.keep {K : PySem.W.Frag} {P : Program} {w : World} {H H' : Hp} {d : Addr} {kvs : List (List Int × V)} (g : DN K P w H d kvs) (s : Keep K H H') (e : ∀ o, H d = some o → H' d = some o) : DN K P w H' d kvs := by
  obtain ⟨L, h1, h2, h3⟩ := g
  exact ⟨L, e _ h1, fun x hx => s _ _ (h2 x hx), h3⟩
/-- what is not at d stays, tuples stay -/
theorem keep_updX {K : PySem.W.Frag} {P : Program} {w : World} {H : Hp} {d : Addr} {L L' : KX} (h : H d = some (DXO P w d L)) : Keep K H (upd H d (DXO P w d L')) := fun a xs hs => by
  rcases hs with (hs | ⟨o, hs⟩) | hs
  · exact .inl (.inl (by rw [upd_ne (fun e => by rw [e, h] at hs; cases hs)]; exact hs))
  · exact .inl (.inr ⟨o, by rw [upd_ne (fun e => by rw [e, h] at hs; cases hs)]; exact hs⟩)
  · exact .inr hs
section
variable {X : Cx} {pins : List (Addr × Obj)} {σ : L2.St} {H : Hp} {s : Shared} {d a b : Addr} {kvs : List (List Int × V)} {k : List Int} {A : Around} {E : Value → Shared → Prop}
theorem DN.at (I : Inv X pins σ H s) (g : DN X.K X.prog X.w H d kvs) : (d == sysModules) = false ∧ ∃ (L : KX) (xs : List (List Int × Addr × Value)), H d = some (DXO X.prog X.w d L) ∧ (∀ x ∈ L, SqT X.K H x.2.1 (x.1.map V.int)) ∧ kvX L = kvs ∧ RX L xs ∧ L.length ≤ sizeLine ∧ s.heap.DictOfH (tupleKind (intKind X.prog X.w)) d xs := by
  obtain ⟨L, h1, h2, h3⟩ := g
  obtain ⟨⟨z, y, xs, r, o, es, ep, ho, hc, hd, he, hn⟩, _⟩ := (show ObjOk X.prog X.w H s.heap d (DXO X.prog X.w d L) from I.hok d _ h1)
  refine ⟨y, L, xs, h1, h2, h3, r, z, o, es, ep, ho, hc, hd, he, ?_, hn⟩
  have all : ∀ {l : KX} {m : List (List Int × Addr × Value)}, RX l m → (∀ x ∈ l, SqT X.K H x.2.1 (x.1.map V.int)) → ∀ x ∈ m, (tupleKind (intKind X.prog X.w)).is s.heap x.1 x.2.1 := by
    intro l m q
    unfold RX at q
    induction q with
    | nil => intro _ x hx; exact nomatch hx
    | @cons p q ps qs hq t ih =>
      intro hl x hx
      rcases List.mem_cons.mp hx with e | hx
      · subst e
        have := I.isT (hl p (List.mem_cons_self ..))
        rw [hq.1, hq.2.1] at this
        exact this
      · exact ih (fun x hx => hl x (List.mem_cons_of_mem _ hx)) x hx
  exact all r h2
theorem DN.typeIs (I : Inv X pins σ H s) (g : DN X.K X.prog X.w H d kvs) : s.TypeIs (.ref d) "dict" := by
  obtain ⟨_, _, _, _, _, _, _, _, dd⟩ := g.at I
  exact dd.typeIs
theorem DN.noDict (I : Inv X pins σ H s) (g : DN X.K X.prog X.w H d kvs) : ∀ b, Value.ref d = .ref b → ∃ ob, s.heap.get? b = some ob ∧ ob.dict = none := fun b q => by
  cases q
  obtain ⟨_, _, _, _, _, _, _, _, ob, _, _, h1, h2, _⟩ := g.at I
  exact ⟨ob, h1, h2.2.1⟩
theorem n_getItem {v : V} {Q : Value → Shared → Prop} (hu : A.units + 1 < cLine) (I : Inv X pins σ H s) (g : DN X.K X.prog X.w H d kvs) (hk : SqT X.K H b (k.map V.int)) (hv : valV kvs k = some v) (h : ∀ w' s', Inv X pins σ H s' → RelV v w' → Q w' s') :
    wpAny (model X.prog X.w) A (getItem (.ref d) (.ref b)) Q E s := by
  obtain ⟨hd, L, xs, _, _, e, r, _, dd⟩ := g.at I
  obtain ⟨w', hw, rw'⟩ := RelO.some_of (v := v) (o := (atKey xs k).map (·.2)) (by rw [← hv, ← e]; exact r.val k)
  obtain ⟨p, hp, hp2⟩ := Option.map_eq_some_iff.mp hw
  refine wpAny_getItem_heap (tupleKind_room_in1 hu) (I.isT hk) dd hp ?_
  rw [hp2]
  exact h w' _ (I.tok _) rw'
theorem n_in {Q : Value → Shared → Prop} (hu : A.units + 1 < cLine) (I : Inv X pins σ H s) (g : DN X.K X.prog X.w H d kvs) (hk : SqT X.K H b (k.map V.int)) (h : ∀ s', Inv X pins σ H s' → Q (.bool (valV kvs k).isSome) s') :
    wpAny (model X.prog X.w) A (compareOp .In (.ref b) (.ref d)) Q E s := by
  obtain ⟨hd, L, xs, _, _, e, r, _, dd⟩ := g.at I
  refine wpAny_in_heap (tupleKind_room_in1 hu) (I.isT hk) hd dd ?_
  have q := (r.val k).isSome_eq
  rw [Option.isSome_map, e] at q
  rw [← q]
  exact h _ (I.tok _)
theorem n_notIn {Q : Value → Shared → Prop} (hu : A.units + 1 < cLine) (I : Inv X pins σ H s) (g : DN X.K X.prog X.w H d kvs) (hk : SqT X.K H b (k.map V.int)) (h : ∀ s', Inv X pins σ H s' → Q (.bool (!(valV kvs k).isSome)) s') :
    wpAny (model X.prog X.w) A (compareOp .NotIn (.ref b) (.ref d)) Q E s := by
  obtain ⟨hd, L, xs, _, _, e, r, _, dd⟩ := g.at I
  refine wpAny_notIn_heap (tupleKind_room_in1 hu) (I.isT hk) hd dd ?_
  have q := (r.val k).isSome_eq
  rw [Option.isSome_map, e] at q
  rw [← q]
  exact h _ (I.tok _)
theorem n_get1 {Q : Value → Shared → Prop} (hu : A.units + 1 < cLine) (I : Inv X pins σ H s) (g : DN X.K X.prog X.w H d kvs) (hk : SqT X.K H b (k.map V.int)) (h : ∀ w' s', Inv X pins σ H s' → RelV ((valV kvs k).getD .non) w' → Q w' s') :
    wpAny (model X.prog X.w) A (call (.builtin "dict.get") [.ref d, .ref b]) Q E s := by
  obtain ⟨hd, L, xs, _, _, e, r, _, dd⟩ := g.at I
  refine call_meetsIn PySem.F.slot_dict_get dd.typeIs PySem.F.entry_dict_get (PySem.F.args_dict_get_2 _ _) (meetsH_dict_get (tupleKind (intKind X.prog X.w)) d b hd) ⟨tupleKind_room_in1 hu, k, xs, I.isT hk, dd, h _ _ (I.tok _) ?_⟩
  rw [← e]
  exact (r.val k).getD rfl
theorem n_get2 {z : V} {u : Value} {Q : Value → Shared → Prop} (hu : A.units + 1 < cLine) (I : Inv X pins σ H s) (g : DN X.K X.prog X.w H d kvs) (hk : SqT X.K H b (k.map V.int)) (rz : RelV z u) (h : ∀ w' s', Inv X pins σ H s' → RelV ((valV kvs k).getD z) w' → Q w' s') :
    wpAny (model X.prog X.w) A (call (.builtin "dict.get") [.ref d, .ref b, u]) Q E s := by
  obtain ⟨hd, L, xs, _, _, e, r, _, dd⟩ := g.at I
  refine call_meetsIn PySem.F.slot_dict_get dd.typeIs PySem.F.entry_dict_get (PySem.F.args_dict_get_3 _ _ _) (meetsH_dict_get_default (tupleKind (intKind X.prog X.w)) d b hd u) ⟨tupleKind_room_in1 hu, k, xs, I.isT hk, dd, h _ _ (I.tok _) ?_⟩
  rw [← e]
  exact (r.val k).getD rz
/-- the heaps behind d[k] = v -/
def DNput (K : PySem.W.Frag) (P : Program) (w : World) (H : Hp) (d : Addr) (kvs : List (List Int × V)) (k : List Int) (v : V) (R : Hp → Prop) : Prop :=
  ∀ H', (∀ c, c ≠ d → H' c = H c) → Keep K H H' → DN K P w H' d (putK kvs k v) → R H'
theorem n_setItem {v : V} {u : Value} {Q : Unit → Shared → Prop} (hu : A.units + 1 < cLine) (I : Inv X pins σ H s) (g : DN X.K X.prog X.w H d kvs) (hk : SqT X.K H b (k.map V.int)) (hl : kvs.length < sizeLine) (rv : RelV v u) (h : DNput X.K X.prog X.w H d kvs k v fun H' => ∀ s', Inv X pins σ H' s' → Q () s') :
    wpAny (model X.prog X.w) A (setItem (.ref d) (.ref b) u) Q E s := by
  obtain ⟨hd, L, xs, hL, hS, e, r, z, dd⟩ := g.at I
  have hz : xs.length ≤ sizeLine := by rw [← r.len]; exact z
  have hl2 : (putX L k b v).length ≤ sizeLine := by
    have := length_putK kvs k v
    rw [← kvX_len, kvX_put, e]
    omega
  have kp := keep_updX (K := X.K) (L' := putX L k b v) hL
  refine wpAny_setItem_heap (hsz := hz) (tupleKind_room_in1 hu) (I.isT hk) dd fun h' dd' hs => ?_
  obtain ⟨q, es, ep, hq, h2, h3, h4, _, h5⟩ := dd'
  refine h _ (fun c hc => upd_ne hc) kp ⟨putX L k b v, upd_same, fun x hx => ?_, by rw [kvX_put, e]⟩ _ (d_write I (by rw [hL]; exact True.intro) hs ⟨q, hq⟩ (dx_new ⟨hl2, hd, _, r.put k rv, q, es, ep, hq, h2, h3, h4, h5⟩))
  rcases putX_key hx with ⟨y, hy, e1, e2⟩ | ⟨e1, e2⟩
  · rw [e1, e2]; exact kp _ _ (hS y hy)
  · rw [e1, e2]; exact kp _ _ hk
end
/-! ### readings -/
def tNGet (K : PySem.W.Frag) (P : Program) (w : World) (td ty : TE) : TE := fun σ H Q => td σ H fun x H1 => ty σ H1 fun y H2 => ∃ a b kvs k v, x = .ref a ∧ y = .ref b ∧ DN K P w H2 a kvs ∧ SqT K H2 b (k.map V.int) ∧ valV kvs k = some v ∧ Q v H2
def tNIn (K : PySem.W.Frag) (P : Program) (w : World) (ty td : TE) : TE := fun σ H Q => ty σ H fun y H1 => td σ H1 fun x H2 => ∃ a b kvs k, x = .ref a ∧ y = .ref b ∧ DN K P w H2 a kvs ∧ SqT K H2 b (k.map V.int) ∧ Q (.bl (valV kvs k).isSome) H2
def tNNotIn (K : PySem.W.Frag) (P : Program) (w : World) (ty td : TE) : TE := fun σ H Q => ty σ H fun y H1 => td σ H1 fun x H2 => ∃ a b kvs k, x = .ref a ∧ y = .ref b ∧ DN K P w H2 a kvs ∧ SqT K H2 b (k.map V.int) ∧ Q (.bl (!(valV kvs k).isSome)) H2
def sNPut (K : PySem.W.Frag) (P : Program) (w : World) (td ty tv : TE) : TS := fun D σ H => tv σ H fun v H1 => td σ H1 fun x H2 => ty σ H2 fun y H3 => ∃ a b kvs k, x = .ref a ∧ y = .ref b ∧ DN K P w H3 a kvs ∧ SqT K H3 b (k.map V.int) ∧ kvs.length < sizeLine ∧ DNput K P w H3 a kvs k v fun H' => D.nx σ H'
def tNGet1 (K : PySem.W.Frag) (P : Program) (w : World) (td ty : TE) : TE := fun σ H Q => td σ H fun x H1 => ∃ a kvs, x = .ref a ∧ DN K P w H1 a kvs ∧ ty σ H1 fun y H2 => ∃ b k, y = .ref b ∧ DN K P w H2 a kvs ∧ SqT K H2 b (k.map V.int) ∧ Q ((valV kvs k).getD .non) H2
def tNGet2 (K : PySem.W.Frag) (P : Program) (w : World) (td ty tx : TE) : TE := fun σ H Q => td σ H fun x H1 => ∃ a kvs, x = .ref a ∧ DN K P w H1 a kvs ∧ ty σ H1 fun y H2 => tx σ H2 fun z H3 => ∃ b k, y = .ref b ∧ DN K P w H3 a kvs ∧ SqT K H3 b (k.map V.int) ∧ Q ((valV kvs k).getD z) H3
section
variable {X : Cx} {K : PySem.W.Frag} {P : Program} {w : World} {o i e f value : Expr} {pos pos' tpos apos cpos : Pos} {td ty tv tx : TE}
theorem pe_nget (hK : X.K = K) (hP : X.prog = P) (hw : X.w = w) (hu : X.A.units + 1 < cLine) (ho : PE X o td) (hi : PE X i ty) (hs : NoSl i) : PE X (.Subscript o i pos) (tNGet K P w td ty) := by
  subst hK hP hw
  refine ⟨fun pins s σ H Q I h => ?_⟩
  refine subD_of PySem.F.slot_dict_getitem.lookup hs (thn (ho.run pins s σ H _ I h) fun u s1 ⟨x, H1, I1, rx, q1⟩ => thn (hi.run pins s1 σ H1 _ I1 q1) fun iv s2 ⟨y, H2, I2, ry, a, b, kvs, k, v, ex, ey, g, hk, hv, q2⟩ => ?_)
  subst ex ey
  obtain rfl : u = Value.ref a := rx
  obtain rfl : iv = Value.ref b := ry
  exact ⟨g.typeIs I2, n_getItem hu I2 g hk hv fun w' s3 I3 rw' => ⟨v, H2, I3, rw', q2⟩⟩
theorem pc_nin (hK : X.K = K) (hP : X.prog = P) (hw : X.w = w) (hu : X.A.units + 1 < cLine) (hi : PE X i ty) (ho : PE X o td) : PC X .In i o (tNIn K P w ty td) := by
  subst hK hP hw
  refine ⟨fun pins s σ H Q I h => ?_⟩
  refine thn (hi.run pins s σ H _ I h) fun iv s1 ⟨y, H1, I1, ry, q1⟩ => thn (ho.run pins s1 σ H1 _ I1 q1) fun u s2 ⟨x, H2, I2, rx, a, b, kvs, k, ex, ey, g, hk, q2⟩ => ?_
  subst ex ey
  obtain rfl : u = Value.ref a := rx
  obtain rfl : iv = Value.ref b := ry
  exact n_in hu I2 g hk fun s3 I3 => ⟨.bl _, H2, I3, rfl, q2⟩
theorem pc_nnotin (hK : X.K = K) (hP : X.prog = P) (hw : X.w = w) (hu : X.A.units + 1 < cLine) (hi : PE X i ty) (ho : PE X o td) : PC X .NotIn i o (tNNotIn K P w ty td) := by
  subst hK hP hw
  refine ⟨fun pins s σ H Q I h => ?_⟩
  refine thn (hi.run pins s σ H _ I h) fun iv s1 ⟨y, H1, I1, ry, q1⟩ => thn (ho.run pins s1 σ H1 _ I1 q1) fun u s2 ⟨x, H2, I2, rx, a, b, kvs, k, ex, ey, g, hk, q2⟩ => ?_
  subst ex ey
  obtain rfl : u = Value.ref a := rx
  obtain rfl : iv = Value.ref b := ry
  exact n_notIn hu I2 g hk fun s3 I3 => ⟨.bl _, H2, I3, rfl, q2⟩
theorem ps_nput (hK : X.K = K) (hP : X.prog = P) (hw : X.w = w) (hu : X.A.units + 1 < cLine) (ho : PE X o td) (hi : PE X i ty) (hv : PE X value tv) (hs : swapsWith value (some (.Subscript o i pos')) pos.line X.env = pure false) :
    PS X (.Assign [.Subscript o i pos'] value pos) (sNPut K P w td ty tv) := by
  subst hK hP hw
  refine ⟨fun pins s σ H D I h => ?_⟩
  refine wpAny_Assign_Subscript (thn (hv.run pins s σ H _ I h) fun r s1 ⟨v, H1, I1, rv, q1⟩ => thn (ho.run pins s1 σ H1 _ I1 q1) fun u s2 ⟨x, H2, I2, rx, q2⟩ => thn (hi.run pins s2 σ H2 _ I2 q2) fun iv s3 ⟨y, H3, I3, ry, a, b, kvs, k, ex, ey, g, hk, hl, q3⟩ => ?_) hs
  subst ex ey
  obtain rfl : u = Value.ref a := rx
  obtain rfl : iv = Value.ref b := ry
  exact n_setItem hu I3 g hk hl rv fun H' h1 h2 h3 s4 I4 => ⟨σ, H', I4, q3 H' h1 h2 h3⟩
theorem pe_nget1 (hK : X.K = K) (hP : X.prog = P) (hw : X.w = w) (hu : X.A.units + 1 < cLine) (ho : PE X o td) (he : PE X e ty) (m : M1 X o "get" apos e cpos) : PE X (.Call (.Attribute o "get" apos) [e] [] cpos) (tNGet1 K P w td ty) := by
  subst hK hP hw
  refine ⟨fun pins s σ H Q I h => ?_⟩
  refine wpAny_Call_method m.base m.few m.line PySem.F.plainAttrs_dict PySem.F.slot_dict_get PySem.F.type_dict_get (thn (ho.run pins s σ H _ I h) fun u s1 ⟨x, H1, I1, rx, a, kvs, ex, d, q1⟩ => ?_)
  subst ex
  obtain rfl : u = Value.ref a := rx
  refine ⟨d.typeIs I1, d.noDict I1, ?_⟩
  rw [m.trees]
  refine Calls.callWith_builtin rfl (Calls.evalArgs_plain (Calls.spliced_cons (thn (he.run pins s1 σ H1 _ I1 q1) fun iv s2 ⟨y, H2, I2, ry, b, k, ey, g, hk, q2⟩ => Calls.spliced_nil ?_)))
  subst ey
  obtain rfl : iv = Value.ref b := ry
  exact n_get1 hu I2 g hk fun w' s3 I3 rw' => ⟨_, H2, I3, rw', q2⟩
theorem pe_nget2 (hK : X.K = K) (hP : X.prog = P) (hw : X.w = w) (hu : X.A.units + 1 < cLine) (ho : PE X o td) (he : PE X e ty) (hf : PE X f tx) (m : M2 X o "get" apos e f cpos) : PE X (.Call (.Attribute o "get" apos) [e, f] [] cpos) (tNGet2 K P w td ty tx) := by
  subst hK hP hw
  refine ⟨fun pins s σ H Q I h => ?_⟩
  refine wpAny_Call_method m.base m.few m.line PySem.F.plainAttrs_dict PySem.F.slot_dict_get PySem.F.type_dict_get (thn (ho.run pins s σ H _ I h) fun u s1 ⟨x, H1, I1, rx, a, kvs, ex, d, q1⟩ => ?_)
  subst ex
  obtain rfl : u = Value.ref a := rx
  refine ⟨d.typeIs I1, d.noDict I1, ?_⟩
  rw [m.trees]
  refine Calls.callWith_builtin rfl (Calls.evalArgs_plain (Calls.spliced_cons (thn (he.run pins s1 σ H1 _ I1 q1) fun iv s2 ⟨y, H2, I2, ry, q2⟩ =>
    Calls.spliced_cons (thn (hf.run pins s2 σ H2 _ I2 q2) fun fv s3 ⟨z, H3, I3, rz, b, k, ey, g, hk, q3⟩ => Calls.spliced_nil ?_))))
  subst ey
  obtain rfl : iv = Value.ref b := ry
  exact n_get2 hu I3 g hk rz fun w' s4 I4 rw' => ⟨_, H3, I4, rw', q3⟩
end
theorem u2_of {A : Around} {k : Nat} (hr : Room k A) : A.units + 2 < cLine := Nat.lt_of_le_of_lt (Nat.add_le_add_left (by decide : 2 ≤ 64) _) hr.units
/-! ### {} and dict(list of pairs) -/
theorem dx_empty {P : Program} {w : World} (h : Heap) (hb : sysModules < h.objs.size) : DX0 P w (h.push { cls := .type "dict", data := .dict #[] }) h.objs.size [] :=
  ⟨Nat.zero_le _, beq_eq_false_iff_ne.mpr (Ne.symm (Nat.ne_of_lt hb)), [], .nil, _, #[], 0, Heap.get?_push_size _ rfl, ⟨rfl, rfl, rfl⟩, rfl, rfl, List.nodup_nil⟩
def tNNew (K : PySem.W.Frag) (P : Program) (w : World) : TE := fun _ H Q => ∀ p H', H p = none → Same H H' → DN K P w H' p [] → Q (.ref p) H'
theorem pe_nnew {X : Cx} {K : PySem.W.Frag} {P : Program} {w : World} {pos : Pos} (hK : X.K = K) (hP : X.prog = P) (hw : X.w = w) : PE X (.Dict [] [] pos) (tNNew K P w) := by
  subst hK hP hw
  refine ⟨fun pins s σ H Q I h => ?_⟩
  have hn : H s.heap.objs.size = none := I.hok.fresh (Nat.le_refl _)
  exact wpAny_Dict_empty ⟨.ref s.heap.objs.size, _, I.laid (a := s.heap.objs.size) (o := DXO X.prog X.w s.heap.objs.size []) (t' := s.toks) (fun _ _ q => Heap.get?_push_of_some _ q) (Nat.le_refl _) (dx_new (dx_empty s.heap I.big)), rfl, h _ _ hn (same_upd hn) ⟨[], upd_same, (fun x hx => nomatch hx), rfl⟩⟩
def mergeT (kvs more : List (List Int × V)) : List (List Int × V) := more.foldl (fun acc kv => putK acc kv.1 kv.2) kvs
def allX (L M : KX) : KX := M.foldl (fun acc p => putX acc p.1 p.2.1 p.2.2) L
theorem RX.all {M : KX} {ms : List (List Int × Addr × Value)} (r : RX M ms) : ∀ {L : KX} {xs : List (List Int × Addr × Value)}, RX L xs → RX (allX L M) (storedAllH xs ms) := by
  unfold RX at r
  induction r with
  | nil => intro L xs q; exact q
  | @cons p q ps qs h t ih =>
    intro L xs hq
    show RX (allX (putX L p.1 p.2.1 p.2.2) ps) (storedAllH (storedH xs q.1 q.2.1 q.2.2) qs)
    rw [← h.1, ← h.2.1]
    exact ih (hq.put _ h.2.2)
theorem kvX_all : ∀ (M L : KX), kvX (allX L M) = mergeT (kvX L) (kvX M)
  | [], _ => rfl
  | p :: M, L => by
    show kvX (allX (putX L p.1 p.2.1 p.2.2) M) = mergeT (putK (kvX L) p.1 p.2.2) (kvX M)
    rw [kvX_all M, kvX_put]
theorem allX_key {Pr : List Int → Addr → Prop} : ∀ {M L : KX}, (∀ x ∈ L, Pr x.1 x.2.1) → (∀ x ∈ M, Pr x.1 x.2.1) → ∀ x ∈ allX L M, Pr x.1 x.2.1
  | [], _, h, _ => h
  | p :: M, L, h, hp => allX_key (M := M) (L := putX L p.1 p.2.1 p.2.2) (fun x hx => by
      rcases putX_key hx with ⟨y, hy, e1, e2⟩ | ⟨e1, e2⟩
      · rw [e1, e2]; exact h y hy
      · rw [e1, e2]; exact hp p List.mem_cons_self) fun x hx => hp x (List.mem_cons_of_mem _ hx)
theorem putX_len (L : KX) (k : List Int) (b : Addr) (v : V) : (putX L k b v).length ≤ L.length + 1 := by
  unfold putX
  split <;> simp
theorem allX_len : ∀ (M L : KX), (allX L M).length ≤ L.length + M.length
  | [], _ => Nat.le_refl _
  | p :: M, L => by
    have h1 := allX_len M (putX L p.1 p.2.1 p.2.2)
    have h2 := putX_len L p.1 p.2.1 p.2.2
    show (allX (putX L p.1 p.2.1 p.2.2) M).length ≤ _
    simp only [List.length_cons]
    omega
/-- a list of pairs (tuple of ints, value) -/
def rDictT (K : PySem.W.Frag) (P : Program) (w : World) : List V → Hp → VK → Prop := fun xs H Q => ∃ (a : Addr) (ts : List Addr) (M : KX), xs = [V.ref a] ∧ SqL K H a (ts.map V.ref) ∧ Paired (fun t m => SqT K H t [V.ref m.2.1, m.2.2] ∧ SqT K H m.2.1 (m.1.map V.int)) ts M ∧
  ∀ p H', H p = none → Same H H' → DN K P w H' p (mergeT [] (kvX M)) → Q (.ref p) H'
theorem pairsT_of {X : Cx} {pins : List (Addr × Obj)} {σ : L2.St} {H : Hp} {s : Shared} (I : Inv X pins σ H s) : ∀ {ts : List Addr} {M : KX}, Paired (fun t m => SqT X.K H t [V.ref m.2.1, m.2.2] ∧ SqT X.K H m.2.1 (m.1.map V.int)) ts M →
    ∃ ms : List (List Int × Addr × Value), RX M ms ∧ ms.length = ts.length ∧ ∀ (j : Nat) (q : List Int × Addr × Value), ms[j]? = some q → ∃ t, ts[j]? = some t ∧ IsTup s.heap t #[Value.ref q.2.1, q.2.2] ∧ IsT X.prog X.w s.heap q.1 q.2.1
  | _, _, .nil => ⟨[], .nil, rfl, fun j q e => by simp at e⟩
  | _, _, .cons (a := p) (b := m) h t => by
    obtain ⟨ms, r, hl, hp⟩ := pairsT_of I t
    obtain ⟨its, rv, ht, _⟩ := I.tuple h.1
    obtain ⟨u, y, ei, ru, ry⟩ := vals2 rv
    subst ei
    cases ru
    refine ⟨(m.1, m.2.1, y) :: ms, .cons ⟨rfl, rfl, ry⟩ r, by rw [List.length_cons, List.length_cons, hl], fun j q e => ?_⟩
    cases j with
    | zero =>
      have e' : (m.1, m.2.1, y) = q := Option.some.inj e
      subst e'
      exact ⟨p, rfl, ht, I.isT h.2⟩
    | succ j =>
      obtain ⟨b, e1, e2, e3⟩ := hp j q (by simpa using e)
      exact ⟨b, by simpa using e1, e2, e3⟩
theorem call_dictT {X : Cx} {K : PySem.W.Frag} {P : Program} {w : World} (hK : X.K = K) (hP : X.prog = P) (hw : X.w = w) (hcalm : X.calm = true) (hu : X.A.units + 2 < cLine) : CallR X (.type "dict") (rDictT K P w) := by
  subst hK hP hw
  intro pins s σ H xs us Q I r q
  obtain ⟨a, ts, M, ex, hq, hp, q⟩ := q
  subst ex
  obtain ⟨u, eu, rx⟩ := vals1 r
  subst eu
  cases rx
  obtain ⟨its, rv, pl, hz⟩ := I.list hq
  have ei := refs_at rv
  subst ei
  rw [List.length_map] at hz
  obtain ⟨ms, rel, hl, hpr⟩ := pairsT_of I hp
  obtain ⟨o, n, ho, hc, hd, hdat⟩ := pl
  have hmsM := rel.len
  have isAll : ∀ x ∈ ms, (tupleKind (intKind X.prog X.w)).is s.heap x.1 x.2.1 := fun x hx => by
    obtain ⟨j, hj⟩ := List.mem_iff_getElem?.mp hx
    obtain ⟨t, _, _, h3⟩ := hpr j x hj
    exact h3
  have hn : H s.heap.objs.size = none := I.hok.fresh (Nat.le_refl _)
  refine call_dict_pairsH (knd := tupleKind (intKind X.prog X.w)) (ps := ms) (PairArg.list a (ts.map Value.ref).toArray (fun j => ts.getD j 0) (ms.map fun m => (Value.ref m.2.1, m.2.2))) (I.ok.hd hcalm) ?_ ⟨⟨o, n, ho, hc, hd, hdat⟩, ?_, ?_⟩ ⟨?_, ?_⟩ (fun h' hk x hx => ?_) ?_ fun h' tk hd' hk => ?_
  · show X.A.in1.units + 1 < cLine
    exact hu
  · simp [hl]
  · intro j k v hj
    rw [List.getElem?_map, Option.map_eq_some_iff] at hj
    obtain ⟨m, hm, em⟩ := hj
    cases em
    obtain ⟨t, e1, e2, e3⟩ := hpr j m hm
    have et : ts.getD j 0 = t := by rw [List.getD_eq_getElem?_getD, e1]; rfl
    dsimp only
    rw [et]
    refine ⟨by simp [e1], ?_⟩
    exact .inl e2
  · simp
  · intro i key v hr
    rw [PairRel, List.getElem?_map, Option.map_eq_some_iff] at hr
    obtain ⟨m, hm, em⟩ := hr
    cases em
    exact ⟨m.1, m.2.1, hm, rfl⟩
  · have := isAll x hx
    obtain ⟨o', items, n', ho', hc', hd', hi'⟩ := (show IsTupleKey (intKind X.prog X.w) s.heap x.1 x.2.1 from this)
    exact ⟨o', items, n', hk _ _ (Nat.ne_of_lt (Heap.lt_size ho')) (fun z => nomatch z) ho', hc', hd', hi'⟩
  · rw [List.length_map, hl]; exact hz
  · have hm : (s.heap.objs.size == sysModules) = false := beq_eq_false_iff_ne.mpr (Nat.ne_of_gt I.big)
    have hlen : (allX [] M).length ≤ sizeLine := by
      refine Nat.le_trans (allX_len M []) ?_
      rw [List.length_nil, Nat.zero_add, hmsM, hl]
      exact hz
    obtain ⟨o', es, ep, h1, h2, h3, h4, _, h5⟩ := hd'
    have I2 := I.laid (t' := tk) (fun b u e => hk b u (fun z => nomatch z) e) (Nat.le_refl _) (dx_new (H := upd H s.heap.objs.size (DXO X.prog X.w s.heap.objs.size (allX [] M))) (P := X.prog) (w := X.w) (h := h') (d := s.heap.objs.size) (L := allX [] M) ⟨hlen, hm, _, RX.all rel .nil, o', es, ep, h1, h2, h3, h4, h5⟩)
    refine ⟨.ref s.heap.objs.size, _, I2, rfl, q _ _ hn (same_upd hn) ⟨allX [] M, upd_same, ?_, kvX_all M []⟩⟩
    refine allX_key (Pr := fun k b => SqT X.K (upd H s.heap.objs.size (DXO X.prog X.w s.heap.objs.size (allX [] M))) b (k.map V.int)) (fun x hx => nomatch hx) fun x hx => ?_
    have fnd : ∀ {ts : List Addr} {M : KX}, Paired (fun t m => SqT X.K H t [V.ref m.2.1, m.2.2] ∧ SqT X.K H m.2.1 (m.1.map V.int)) ts M → ∀ x ∈ M, SqT X.K H x.2.1 (x.1.map V.int) := by
      intro ts M hp
      induction hp with
      | nil => intro x hx; exact nomatch hx
      | @cons p q ps qs h t ih =>
        intro x hx
        rcases List.mem_cons.mp hx with e | hx
        · subst e; exact h.2
        · exact ih x hx
    exact Same.tup (same_upd hn) (fnd hp x hx)
end MB

set_option maxHeartbeats 4000000
namespace MB
open PySem PySem.Spec PyProof.Rows L2
/-! ### a dict as a function from keys to data -/
def OD (K : PySem.W.Frag) (H : Hp) : Option V → Option PyData → Prop
  | none, none => True
  | some v, some d => Dp K H v d
  | _, _ => False
theorem OD.same {K : PySem.W.Frag} {H H' : Hp} (s : Same H H') : ∀ {o : Option V} {d : Option PyData}, OD K H o d → OD K H' o d
  | none, none, _ => True.intro
  | some _, some _, h => Dp.same s h
  | none, some _, h => False.elim h
  | some _, none, h => False.elim h
theorem OD.keep {K : PySem.W.Frag} {H H' : Hp} (s : Keep K H H') : ∀ {o : Option V} {d : Option PyData}, (∀ x, d = some x → Tf x) → OD K H o d → OD K H' o d
  | none, none, _, _ => True.intro
  | some _, some _, t, h => Dp.keep s (t _ rfl) h
  | none, some _, _, h => False.elim h
  | some _, none, _, h => False.elim h
theorem OD.get {K : PySem.W.Frag} {H : Hp} : ∀ {o : Option V} {d : PyData}, OD K H o (some d) → ∃ v, o = some v ∧ Dp K H v d
  | some v, _, h => ⟨v, rfl, h⟩
  | none, _, h => False.elim h
theorem OD.non {K : PySem.W.Frag} {H : Hp} : ∀ {o : Option V}, OD K H o none → o = none
  | some v, h => False.elim h
  | none, h => rfl
def updT (T : List Int → Option PyData) (k : List Int) (d : PyData) : List Int → Option PyData := fun j => if j = k then some d else T j
def Tab (K : PySem.W.Frag) (P : Program) (w : World) (H : Hp) (a : Addr) (n : Nat) (T : List Int → Option PyData) : Prop :=
  ∃ kvs, DN K P w H a kvs ∧ kvs.length ≤ n ∧ (∀ k, OD K H (valV kvs k) (T k)) ∧ ∀ k d, T k = some d → Tf d
section
variable {K : PySem.W.Frag} {P : Program} {w : World} {H H' : Hp} {a b : Addr} {n : Nat} {T : List Int → Option PyData} {k : List Int} {d : PyData}
theorem Tab.same (t : Tab K P w H a n T) (s : Same H H') : Tab K P w H' a n T := by
  obtain ⟨kvs, h1, h2, h3, h4⟩ := t
  exact ⟨kvs, h1.same s, h2, fun k => (h3 k).same s, h4⟩
theorem Tab.keep (t : Tab K P w H a n T) (s : Keep K H H') (e : ∀ o, H a = some o → H' a = some o) : Tab K P w H' a n T := by
  obtain ⟨kvs, h1, h2, h3, h4⟩ := t
  exact ⟨kvs, h1.keep s e, h2, fun k => (h3 k).keep s (h4 k), h4⟩
theorem Tab.mono {m : Nat} (t : Tab K P w H a n T) (h : n ≤ m) : Tab K P w H a m T := by
  obtain ⟨kvs, h1, h2, h3, h4⟩ := t
  exact ⟨kvs, h1, Nat.le_trans h2 h, h3, h4⟩
theorem Tab.some (t : Tab K P w H a n T) : ∃ o, H a = some o ∧ (∀ xs, o ≠ .lst xs) := by
  obtain ⟨kvs, ⟨L, h1, _⟩, _⟩ := t
  exact ⟨_, h1, fun xs e => nomatch e⟩
theorem Tab.ext {T' : List Int → Option PyData} (t : Tab K P w H a n T) (e : ∀ k, T k = T' k) : Tab K P w H a n T' := by
  have : T = T' := funext e
  rw [← this]; exact t
theorem Tab.at (t : Tab K P w H a n T) (e : T k = Option.some d) : ∃ kvs v, DN K P w H a kvs ∧ valV kvs k = Option.some v ∧ Dp K H v d := by
  obtain ⟨kvs, h1, h2, h3, h4⟩ := t
  have := h3 k
  rw [e] at this
  obtain ⟨v, hv, hd⟩ := this.get
  exact ⟨kvs, v, h1, hv, hd⟩
theorem Tab.at0 (t : Tab K P w H a n T) (e : T k = none) : ∃ kvs, DN K P w H a kvs ∧ valV kvs k = none := by
  obtain ⟨kvs, h1, h2, h3, h4⟩ := t
  have := h3 k
  rw [e] at this
  exact ⟨kvs, h1, this.non⟩
theorem Tab.is (t : Tab K P w H a n T) (k : List Int) : ∃ kvs, DN K P w H a kvs ∧ (valV kvs k).isSome = (T k).isSome := by
  cases e : T k with
  | none => obtain ⟨kvs, h1, h2⟩ := t.at0 e; exact ⟨kvs, h1, by rw [h2]; rfl⟩
  | some d => obtain ⟨kvs, v, h1, h2, _⟩ := t.at e; exact ⟨kvs, h1, by rw [h2]; rfl⟩
theorem Tab.put {v : V} (t : Tab K P w H a n T) (hv : Dp K H v d) (hd : Tf d) (hn : n ≤ 100000) (k : List Int) : ∃ kvs, DN K P w H a kvs ∧ kvs.length < sizeLine ∧
    ∀ H', Keep K H H' → DN K P w H' a (putK kvs k v) → Tab K P w H' a (n + 1) (updT T k d) := by
  obtain ⟨kvs, h1, h2, h3, h4⟩ := t
  refine ⟨kvs, h1, sz61 (by omega), fun H' kp g => ⟨_, g, ?_, fun j => ?_, fun j x hx => ?_⟩⟩
  · have := length_putK kvs k v
    omega
  · rw [valV_put]
    unfold updT
    by_cases e : j = k
    · rw [if_pos e, if_pos e]; exact Dp.keep kp hd hv
    · rw [if_neg e, if_neg e]; exact (h3 j).keep kp (h4 j)
  · unfold updT at hx
    by_cases e : j = k
    · rw [if_pos e] at hx; cases hx; exact hd
    · rw [if_neg e] at hx; exact h4 j x hx
theorem Tab.new (g : DN K P w H a []) : Tab K P w H a 0 (fun _ => none) := ⟨[], g, Nat.le_refl _, fun _ => True.intro, fun _ _ h => nomatch h⟩
end
theorem nodup_inj {α β : Type} {f : α → β} {l : List α} (hf : ∀ a b, f a = f b → a = b) (h : l.Nodup) : (l.map f).Nodup := by
  unfold List.Nodup
  rw [List.pairwise_map]
  exact List.Pairwise.imp (fun hne e => hne (hf _ _ e)) h
/-! ### dict([(key, value) ..]) -/
def dKV (p : List Int × PyData) : PyData := .tuple [.tuple (p.1.map PyData.int), p.2]
def lookT (ps : List (List Int × PyData)) (k : List Int) : Option PyData := (ps.find? fun p => decide (p.1 = k)).map (·.2)
theorem pairs_dp {K : PySem.W.Frag} {H : Hp} : ∀ {ps : List (List Int × PyData)} {us : List V}, DpAll K H us (ps.map dKV) →
    ∃ (ts : List Addr) (M : KX), us = ts.map V.ref ∧ Paired (fun t m => SqT K H t [V.ref m.2.1, m.2.2] ∧ SqT K H m.2.1 (m.1.map V.int)) ts M ∧ Paired (fun m p => m.1 = p.1 ∧ Dp K H m.2.2 p.2) M ps
  | [], _, .nil => ⟨[], [], rfl, .nil, .nil⟩
  | p :: ps, _, .cons h t => by
    obtain ⟨ts, M, e, h1, h2⟩ := pairs_dp t
    obtain ⟨a, xs, rfl, hS, hA⟩ := Dp.tupInv h
    cases hA with
    | cons g1 g2 =>
      cases g2 with
      | cons g3 g4 =>
        cases g4
        obtain ⟨b, rfl, hB⟩ := Dp.intsInv g1
        exact ⟨a :: ts, (p.1, b, _) :: M, by rw [e]; rfl, .cons ⟨hS, hB⟩ h1, .cons ⟨rfl, g3⟩ h2⟩
theorem mergeT_snoc : ∀ (more kvs : List (List Int × V)), ((kvs ++ more).map (·.1)).Nodup → mergeT kvs more = kvs ++ more
  | [], kvs, _ => by simp [mergeT]
  | p :: more, kvs, h => by
    have hn : valV kvs p.1 = none := by
      have := valV_any p.1 kvs
      cases e : valV kvs p.1 with
      | none => rfl
      | some v =>
        rw [e] at this
        obtain ⟨q, hq, hq2⟩ := List.any_eq_true.mp (show (kvs.any fun kv => decide (kv.1 = p.1)) = true from this)
        rw [List.map_append, List.map_cons] at h
        have := (List.nodup_append.mp h).2.2 q.1 (List.mem_map.mpr ⟨q, hq, rfl⟩) p.1 (List.mem_cons_self ..)
        exact absurd (of_decide_eq_true hq2) this
    show mergeT (putK kvs p.1 p.2) more = _
    rw [putK_new _ hn, mergeT_snoc more _ (by rw [List.append_assoc]; exact h), List.append_assoc]; rfl
theorem paired_keys {K : PySem.W.Frag} {H : Hp} {M : KX} {ps : List (List Int × PyData)} (h : Paired (fun m p => m.1 = p.1 ∧ Dp K H m.2.2 p.2) M ps) : (kvX M).map (·.1) = ps.map (·.1) := by
  induction h with
  | nil => rfl
  | @cons m p ms ps h t ih =>
    show m.1 :: (kvX ms).map (·.1) = _
    rw [ih, h.1]; rfl
theorem paired_look {K : PySem.W.Frag} {H : Hp} {M : KX} {ps : List (List Int × PyData)} (h : Paired (fun m p => m.1 = p.1 ∧ Dp K H m.2.2 p.2) M ps) (k : List Int) : OD K H (valV (kvX M) k) (lookT ps k) := by
  induction h with
  | nil => exact True.intro
  | @cons m p ms ps h t ih =>
    show OD K H (valV ((m.1, m.2.2) :: kvX ms) k) _
    by_cases e : m.1 = k
    · have e' : p.1 = k := h.1.symm.trans e
      have b : lookT (p :: ps) k = some p.2 := by simp [lookT, List.find?_cons, e']
      rw [valV_pos (p := (m.1, m.2.2)) e, b]; exact h.2
    · have e' : ¬ p.1 = k := fun z => e (h.1.trans z)
      have b : lookT (p :: ps) k = lookT ps k := by simp [lookT, List.find?_cons, e']
      rw [valV_neg (p := (m.1, m.2.2)) e, b]; exact ih
theorem lookT_mem {ps : List (List Int × PyData)} {k : List Int} {d : PyData} (h : lookT ps k = some d) : ∃ p ∈ ps, p.2 = d := by
  unfold lookT at h
  obtain ⟨p, hp, rfl⟩ := Option.map_eq_some_iff.mp h
  exact ⟨p, List.mem_of_find?_eq_some hp, rfl⟩
theorem lookT_at : ∀ {ps : List (List Int × PyData)} {k : List Int} {d : PyData} {j : Nat}, (ps.map (·.1)).Nodup → ps[j]? = some (k, d) → lookT ps k = some d
  | [], _, _, _, _, h => by simp at h
  | p :: ps, k, d, 0, _, h => by
    simp at h
    subst h
    simp [lookT]
  | p :: ps, k, d, j + 1, nd, h => by
    rw [List.map_cons, List.nodup_cons] at nd
    have h' : ps[j]? = some (k, d) := by simpa using h
    have hne : ¬ p.1 = k := fun e => nd.1 (by rw [e]; exact List.mem_map.mpr ⟨(k, d), List.mem_of_getElem? h', rfl⟩)
    have := lookT_at nd.2 h'
    unfold lookT at this ⊢
    rw [List.find?_cons, decide_eq_false hne]
    exact this
theorem Tab.make {K : PySem.W.Frag} {P : Program} {w : World} {H : Hp} {a : Addr} {us : List V} {ps : List (List Int × PyData)} {Q : VK} (hS : SqL K H a us) (hA : DpAll K H us (ps.map dKV)) (nd : (ps.map (·.1)).Nodup) (ht : ∀ p ∈ ps, Tf p.2)
    (q : ∀ p H', H p = none → Same H H' → Tab K P w H' p ps.length (lookT ps) → Q (.ref p) H') : rDictT K P w [.ref a] H Q := by
  obtain ⟨ts, M, rfl, h1, h2⟩ := pairs_dp hA
  refine ⟨a, ts, M, rfl, hS, h1, fun p H' np s g => q p H' np s ?_⟩
  have hk := paired_keys h2
  rw [mergeT_snoc (kvX M) [] (by rw [List.nil_append, hk]; exact nd), List.nil_append] at g
  refine ⟨_, g, ?_, fun k => (paired_look h2 k).same s, fun k d e => ?_⟩
  · rw [kvX_len, Paired.length h2]; exact Nat.le_refl _
  · obtain ⟨p, hp, rfl⟩ := lookT_mem e
    exact ht p hp
end MB

set_option maxHeartbeats 4000000
namespace MB
open PySem PySem.Spec PyProof.Rows L2
/-! ### comprehensions with two clauses: the items by their data -/
/-- the list under way -/
def Acc (K : PySem.W.Frag) (H1 H : Hp) (D : Addr) (ds : List PyData) : Prop := Same H1 H ∧ ∃ acc, H D = some (.lst acc) ∧ DpAll K H acc ds
theorem lc2_in {K : PySem.W.Frag} {J : It} {n : Nat} {G : Hp → Prop} {Y : Nat → Hp → V → Hp → Prop} (w : Walk J n G Y) {g : TG} {tt : TT} {te : TE} {vs : List Nat} {σ : L2.St} {H1 H4 : Hp} {D : Addr} {Nx : Hp → Prop}
    (pre ds : List PyData) (hl : ds.length = n) (hp : ∀ d, d ∈ pre → Tf d) (ht : ∀ d, d ∈ ds → Tf d) (hn : pre.length + n ≤ 100000) (hD : H1 D = none) (h4 : Acc K H1 H4 D pre) (hG : ∀ H, Same H1 H → G H)
    (hs : ∀ i x H H', i < n → Same H1 H → Y i H x H' → ∀ d, ds[i]? = some d → ∀ R : V → Hp → Prop, (∀ y H5, Same H H5 → Dp K H5 y d → R y H5) →
      g x (wipe σ vs) H' fun σ2 H2 => wipe σ2 vs = wipe σ vs ∧ tt σ2 H2 fun b H3 => b = true ∧ te σ2 H3 R)
    (hN : ∀ H, Acc K H1 H D (pre ++ ds) → Nx H)
    (mg : ∀ x σ' H' (Q Q' : L2.St → Hp → Prop), (∀ a b, Q a b → Q' a b) → g x σ' H' Q → g x σ' H' Q') (mt : ∀ σ' H' (Q Q' : Bool → Hp → Prop), (∀ a b, Q a b → Q' a b) → tt σ' H' Q → tt σ' H' Q') :
    ∃ W : Nat → Nat → Hp → Prop, (∃ m, W 0 m H4) ∧ ∀ j k H, W j k H →
      (J.stop j H ∧ Nx H) ∨ (J.go j H ∧ ∃ Nx1 : Hp → Prop, (∀ H', Nx1 H' → ∃ k', k' < k ∧ W (j + 1) k' H') ∧ ∀ x H', J.yld j H x H' → g x (wipe σ vs) H' fun σ3 H5 => wipe σ3 vs = wipe σ vs ∧ tt σ3 H5 fun b H6 =>
        if b = true then te σ3 H6 fun y H7 => ∃ acc, H7 D = some (.lst acc) ∧ acc.length < sizeLine ∧ Nx1 (upd H7 D (.lst (acc ++ [y]))) else Nx1 H6) := by
  refine ⟨fun i m H => m = n - i ∧ i ≤ n ∧ Acc K H1 H D (pre ++ ds.take i), ⟨n, by simp, Nat.zero_le _, by simpa using h4⟩, ?_⟩
  rintro i m H ⟨rfl, hi, s1, acc, ha, hA⟩
  have q := hG H s1
  by_cases hlt : i < n
  · refine .inr ⟨w.goes i H hlt q, fun H' => Acc K H1 H' D (pre ++ ds.take (i + 1)), fun H' p' => ⟨n - (i + 1), by omega, rfl, hlt, p'⟩, fun x H' y => ?_⟩
    have hd' : ds[i]? = some ds[i] := List.getElem?_eq_getElem (by omega)
    have hlen := DpAll.len hA
    rw [List.length_append, List.length_take] at hlen
    refine mg _ _ _ _ _ ?_ (hs i x H H' hlt s1 (w.yields i H x H' hlt q y) ds[i] hd' (fun y H7 => ∃ acc, H7 D = some (.lst acc) ∧ acc.length < sizeLine ∧ Acc K H1 (upd H7 D (.lst (acc ++ [y]))) D (pre ++ ds.take (i + 1))) ?_)
    · rintro σ2 H2 ⟨e1, e2⟩
      refine ⟨e1, mt _ _ _ _ ?_ e2⟩
      rintro b H3 ⟨rfl, e3⟩
      exact iteT e3
    · intro y H5 s5 hy5
      refine ⟨acc, s5 _ _ ha, sz61 (by omega), Same.mut (s1.trans s5) hD, acc ++ [y], upd_same, ?_⟩
      have kp : Keep K H5 (upd H5 D (.lst (acc ++ [y]))) := But.keep But.upd (s5 _ _ ha)
      rw [List.take_add_one, hd', ← List.append_assoc]
      refine DpAll.keep kp (fun d h => ?_) (DpAll.append (DpAll.same s5 hA) (.cons hy5 .nil))
      rcases List.mem_append.mp h with h | h
      · rcases List.mem_append.mp h with h | h
        · exact hp d h
        · exact ht d (List.mem_of_mem_take h)
      · have e : d = ds[i] := by simpa using h
        rw [e]; exact ht _ (List.getElem_mem ..)
  · have e : i = n := by omega
    subst e
    rw [List.take_of_length_le (by omega)] at hA
    exact .inl ⟨w.stops H q, hN H ⟨s1, acc, ha, hA⟩⟩
theorem yesT {σ : L2.St} {H : Hp} {T N : Hp → Prop} (h : T H) : tYes σ H (fun b H3 => if b = true then T H3 else N H3) := by
  unfold tYes
  exact iteT h
/-- what the blocks before i give -/
def blks (f : Nat → List PyData) (i : Nat) : List PyData := (List.range i).flatMap f
theorem blks_succ (f : Nat → List PyData) (i : Nat) : blks f (i + 1) = blks f i ++ f i := by
  unfold blks
  rw [List.range_succ, List.flatMap_append]
  simp
theorem mem_blks {f : Nat → List PyData} {i : Nat} {d : PyData} (h : d ∈ blks f i) : ∃ j, j < i ∧ d ∈ f j := by
  unfold blks at h
  obtain ⟨j, hj, hd⟩ := List.mem_flatMap.mp h
  exact ⟨j, List.mem_range.mp hj, hd⟩
theorem lc2_out {K : PySem.W.Frag} {J : It} {n : Nat} {G : Hp → Prop} {Y : Nat → Hp → V → Hp → Prop} (w : Walk J n G Y) {g : TG} {tt : TT} {T : L2.St → Hp → (Hp → Prop) → Prop} {vs : List Nat} {σ : L2.St} {H1 : Hp} {D : Addr} {Qd : Hp → Prop}
    (f : Nat → List PyData) (hD : H1 D = none) (hG : ∀ H, Same H1 H → G H)
    (hs : ∀ i x H H', i < n → Acc K H1 H D (blks f i) → Y i H x H' → ∀ Nx : Hp → Prop, (∀ H, Acc K H1 H D (blks f i ++ f i) → Nx H) →
      g x (wipe σ vs) H' fun σ2 H2 => wipe σ2 vs = wipe σ vs ∧ tt σ2 H2 fun b H3 => if b = true then T σ2 H3 Nx else Nx H3)
    (hd : ∀ H acc, Same H1 H → H D = some (.lst acc) → DpAll K H acc (blks f n) → Qd H) :
    ∃ W : Nat → Nat → Hp → Prop, (∃ m, W 0 m (upd H1 D (.lst []))) ∧ ∀ i m H, W i m H →
      (J.stop i H ∧ Qd H) ∨ (J.go i H ∧ ∃ Nx : Hp → Prop, (∀ H', Nx H' → ∃ m', m' < m ∧ W (i + 1) m' H') ∧ ∀ x H', J.yld i H x H' → g x (wipe σ vs) H' fun σ2 H2 => wipe σ2 vs = wipe σ vs ∧ tt σ2 H2 fun b H3 =>
        if b = true then T σ2 H3 Nx else Nx H3) := by
  refine ⟨fun i m H => m = n - i ∧ i ≤ n ∧ Acc K H1 H D (blks f i), ⟨n, by simp, Nat.zero_le _, same_upd hD, [], upd_same, .nil⟩, ?_⟩
  rintro i m H ⟨rfl, hi, p⟩
  have q := hG H p.1
  by_cases hlt : i < n
  · exact .inr ⟨w.goes i H hlt q, fun H' => Acc K H1 H' D (blks f (i + 1)), fun H' p' => ⟨n - (i + 1), by omega, rfl, hlt, p'⟩, fun x H' y => hs i x H H' hlt p (w.yields i H x H' hlt q y) _ fun H2 a => by rw [blks_succ]; exact a⟩
  · have e : i = n := by omega
    subst e
    obtain ⟨s1, acc, ha, hA⟩ := p
    exact .inl ⟨w.stops H q, hd H acc s1 ha hA⟩
theorem lc_allW {K : PySem.W.Frag} {J : It} {n : Nat} {G : Hp → Prop} {Y : Nat → Hp → V → Hp → Prop} (w : Walk J n G Y) {g : TG} {tt : TT} {te : TE} {vs : List Nat} {σ : L2.St} {H1 : Hp} {D : Addr} {Qd : Hp → Prop}
    (ds : List PyData) (hl : ds.length = n) (ht : ∀ d, d ∈ ds → Tf d) (hn : n ≤ 90000) (hD : H1 D = none) (hG : ∀ H, Same H1 H → G H)
    (hs : ∀ i x H H', i < n → Same H1 H → Y i H x H' → ∀ d, ds[i]? = some d → ∀ R : V → Hp → Prop, (∀ y H4, Same H H4 → Dp K H4 y d → R y H4) →
      g x (wipe σ vs) H' fun σ2 H2 => wipe σ2 vs = wipe σ vs ∧ tt σ2 H2 fun b H3 => b = true ∧ te σ2 H3 R)
    (hd : ∀ H acc, Same H1 H → H D = some (.lst acc) → DpAll K H acc ds → Qd H)
    (mg : ∀ x σ' H' (Q Q' : L2.St → Hp → Prop), (∀ a b, Q a b → Q' a b) → g x σ' H' Q → g x σ' H' Q') (mt : ∀ σ' H' (Q Q' : Bool → Hp → Prop), (∀ a b, Q a b → Q' a b) → tt σ' H' Q → tt σ' H' Q') :
    ∃ W : Nat → Nat → Hp → Prop, (∃ m, W 0 m (upd H1 D (.lst []))) ∧ ∀ i m H, W i m H →
      (J.stop i H ∧ Qd H) ∨ (J.go i H ∧ ∃ Nx : Hp → Prop, (∀ H', Nx H' → ∃ m', m' < m ∧ W (i + 1) m' H') ∧ ∀ x H', J.yld i H x H' → g x (wipe σ vs) H' fun σ2 H2 => wipe σ2 vs = wipe σ vs ∧ tt σ2 H2 fun b H3 =>
        if b = true then te σ2 H3 fun y H4 => ∃ acc, H4 D = some (.lst acc) ∧ acc.length < sizeLine ∧ Nx (upd H4 D (.lst (acc ++ [y]))) else Nx H3) := by
  refine lc_it w (fun i H => Same H1 H ∧ ∃ acc, H D = some (.lst acc) ∧ DpAll K H acc (ds.take i)) ⟨same_upd hD, [], upd_same, .nil⟩ (fun i H _ h => hG H h.1) ?_ ?_
  · rintro i x H H' hi ⟨s1, acc, ha, hA⟩ hy
    have hd' : ds[i]? = some ds[i] := List.getElem?_eq_getElem (by omega)
    have hlen := DpAll.len hA
    rw [List.length_take] at hlen
    refine mg _ _ _ _ _ ?_ (hs i x H H' hi s1 hy ds[i] hd' (fun y H4 => ∃ acc, H4 D = some (.lst acc) ∧ acc.length < sizeLine ∧ (Same H1 (upd H4 D (.lst (acc ++ [y]))) ∧ ∃ acc', (upd H4 D (.lst (acc ++ [y]))) D = some (.lst acc') ∧ DpAll K (upd H4 D (.lst (acc ++ [y]))) acc' (ds.take (i + 1)))) ?_)
    · rintro σ2 H2 ⟨h1, h2⟩
      refine ⟨h1, mt _ _ _ _ ?_ h2⟩
      rintro b H3 ⟨rfl, h3⟩
      exact iteT h3
    · intro y H4 s4 hy4
      refine ⟨acc, s4 _ _ ha, sz61 (by omega), Same.mut (s1.trans s4) hD, acc ++ [y], upd_same, ?_⟩
      have kp : Keep K H4 (upd H4 D (.lst (acc ++ [y]))) := But.keep But.upd (s4 _ _ ha)
      rw [List.take_add_one, hd']
      refine DpAll.keep kp (fun d h => ?_) (DpAll.append (DpAll.same s4 hA) (.cons hy4 .nil))
      rcases List.mem_append.mp h with h | h
      · exact ht d (List.mem_of_mem_take h)
      · have e : d = ds[i] := by simpa using h
        rw [e]; exact ht _ (List.getElem_mem ..)
  · rintro H ⟨s1, acc, ha, hA⟩
    rw [List.take_of_length_le (by omega)] at hA
    exact hd H acc s1 ha hA

/-- enumerate in a second clause -/
theorem k_enumT {X : Cx} {K : PySem.W.Frag} (hK : X.K = K) {e : Expr} {ta : TA} {p pos tpos : PySem.Pos} {elts : List Expr} {kk : Nat} (hg : Gl X "enumerate") (hm : X.mg "enumerate" = none) (ha : PA X [e] ta) (hs : starEach [e] X.env = [(false, eval e X.env)] := by rfl) :
    PI X (.Tuple elts kk tpos) (.Call (.Name "enumerate" p) [e] [] pos) (iEnumT K ta) := by
  subst hK
  exact pi_enumT hg hm ha hs
end MB

set_option maxHeartbeats 4000000
namespace MB
/-! ### binomial coefficients -/
def bin : Nat → Nat → Nat
  | _, 0 => 1
  | 0, _ + 1 => 0
  | n + 1, k + 1 => bin n k + bin n (k + 1)
theorem bin_zero (n : Nat) : bin n 0 = 1 := by cases n <;> rfl
theorem bin_succ (n k : Nat) : bin (n + 1) (k + 1) = bin n k + bin n (k + 1) := rfl
theorem bin_lt : ∀ {n k : Nat}, n < k → bin n k = 0
  | 0, k + 1, _ => rfl
  | n + 1, k + 1, h => by rw [bin_succ, bin_lt (n := n) (by omega), bin_lt (n := n) (by omega)]
theorem bin_self : ∀ n : Nat, bin n n = 1
  | 0 => rfl
  | n + 1 => by rw [bin_succ, bin_self n, bin_lt (by omega)]
theorem bin_one : ∀ n : Nat, bin n 1 = n
  | 0 => rfl
  | n + 1 => by rw [bin_succ, bin_zero, bin_one n]; omega
theorem bin_pos : ∀ {n k : Nat}, k ≤ n → 0 < bin n k
  | n, 0, _ => by rw [bin_zero]; decide
  | n + 1, k + 1, h => by rw [bin_succ]; have := bin_pos (n := n) (k := k) (by omega); omega
theorem bin_mul : ∀ n k : Nat, bin (n + 1) (k + 1) * (k + 1) = (n + 1) * bin n k
  | 0, 0 => by decide
  | 0, k + 1 => by simp [bin]
  | n + 1, 0 => by rw [bin_one, bin_zero]
  | n + 1, k + 1 => by
    have h1 := bin_mul n k
    have h2 := bin_mul n (k + 1)
    rw [bin_succ (n + 1) (k + 1), Nat.add_mul, h2]
    have e1 : bin (n + 1) (k + 1) * (k + 1 + 1) = bin (n + 1) (k + 1) * (k + 1) + bin (n + 1) (k + 1) := by rw [Nat.mul_add, Nat.mul_one]
    rw [e1, h1, bin_succ n k]
    grind
/-- the next one in a row -/
theorem bin_step {n j : Nat} (h : j ≤ n) : bin n (j + 1) * (j + 1) = bin n j * (n - j) := by
  have h1 := bin_mul n j
  rw [bin_succ, Nat.add_mul] at h1
  have e : (n + 1) * bin n j = bin n j * (n - j) + bin n j * (j + 1) := by rw [← Nat.mul_add, Nat.mul_comm]; congr 1; omega
  omega
theorem bin_div {n j : Nat} (h : j ≤ n) : bin n j * (n - j) / (j + 1) = bin n (j + 1) := by
  rw [← bin_step h, Nat.mul_div_cancel _ (by omega)]
theorem bin_sym : ∀ a b : Nat, bin (a + b) a = bin (a + b) b
  | 0, b => by rw [Nat.zero_add, bin_zero, bin_self]
  | a + 1, 0 => by rw [Nat.add_zero, bin_zero, bin_self]
  | a + 1, b + 1 => by
    have e : a + 1 + (b + 1) = (a + b + 1) + 1 := by omega
    rw [e, bin_succ (a + b + 1) a, bin_succ (a + b + 1) b]
    have h1 := bin_sym a (b + 1)
    have h2 := bin_sym (a + 1) b
    have e1 : a + (b + 1) = a + b + 1 := by omega
    have e2 : a + 1 + b = a + b + 1 := by omega
    rw [e1] at h1; rw [e2] at h2
    omega
theorem bin_sub {n k : Nat} (h : k ≤ n) : bin n (n - k) = bin n k := by
  have := bin_sym k (n - k)
  rw [show k + (n - k) = n by omega] at this
  exact this.symm
theorem bin_min {n k : Nat} (h : k ≤ n) : bin n (min k (n - k)) = bin n k := by
  by_cases c : k ≤ n - k
  · rw [Nat.min_eq_left c]
  · rw [Nat.min_eq_right (by omega), bin_sub h]
theorem bin_mono1 : ∀ n k : Nat, bin n k ≤ bin (n + 1) k
  | n, 0 => by rw [bin_zero, bin_zero]; exact Nat.le_refl _
  | n, k + 1 => by rw [bin_succ]; omega
theorem bin_mono {n m : Nat} (k : Nat) (h : n ≤ m) : bin n k ≤ bin m k := by
  induction h with
  | refl => exact Nat.le_refl _
  | step _ ih => exact Nat.le_trans ih (bin_mono1 _ _)
theorem bin_strict1 {n k : Nat} (h : k ≤ n + 1) : bin n (k + 1) < bin (n + 1) (k + 1) ∨ n < k := by
  by_cases c : n < k
  · exact .inr c
  · refine .inl ?_
    rw [bin_succ]
    have := bin_pos (n := n) (k := k) (by omega)
    omega
theorem bin_strict {n m k : Nat} (hk : 1 ≤ k) (hn : k ≤ n + 1) (h : n < m) : bin n k < bin m k := by
  have h1 : bin n k < bin (n + 1) k := by
    obtain ⟨j, rfl⟩ : ∃ j, k = j + 1 := ⟨k - 1, by omega⟩
    rw [bin_succ]
    have := bin_pos (n := n) (k := j) (by omega)
    omega
  exact Nat.lt_of_lt_of_le h1 (bin_mono k h)
theorem bin_pow : ∀ n k : Nat, bin n k ≤ (n + 1) ^ k
  | n, 0 => by rw [bin_zero]; simp
  | 0, k + 1 => by rw [bin_lt (by omega)]; exact Nat.zero_le _
  | n + 1, k + 1 => by
    have h := bin_mul n k
    have h1 : bin (n + 1) (k + 1) ≤ bin (n + 1) (k + 1) * (k + 1) := Nat.le_mul_of_pos_right _ (by omega)
    have h2 := bin_pow n k
    have h3 : (n + 1) ^ k ≤ (n + 1 + 1) ^ k := Nat.pow_le_pow_left (by omega) _
    have h4 : (n + 1) * bin n k ≤ (n + 1 + 1) * (n + 1 + 1) ^ k := Nat.mul_le_mul (by omega) (Nat.le_trans h2 h3)
    have h5 : (n + 1 + 1) ^ (k + 1) = (n + 1 + 1) * (n + 1 + 1) ^ k := by rw [Nat.pow_succ, Nat.mul_comm]
    omega
theorem bin_bits {n k : Nat} (hn : n < 2 ^ 64) (hk : k ≤ 64) : bin n k < 2 ^ 4097 := by
  have h1 := bin_pow n k
  have h2 : (n + 1) ^ k ≤ (2 ^ 64) ^ k := Nat.pow_le_pow_left (by omega) _
  have h3 : (2 ^ 64) ^ k ≤ (2 ^ 64 : Nat) ^ 64 := Nat.pow_le_pow_right (by decide) hk
  have h4 : ((2 ^ 64 : Nat) ^ 64) < 2 ^ 4097 := by decide +kernel
  omega
theorem bin_big {k c : Nat} (hk : 1 ≤ k) : c + 1 ≤ bin (k + c) k := by
  induction c with
  | zero => show 1 ≤ bin k k; rw [bin_self]; exact Nat.le_refl _
  | succ c ih =>
    have := bin_strict (n := k + c) (m := k + (c + 1)) (k := k) hk (by omega) (by omega)
    omega
end MB

set_option maxHeartbeats 4000000
namespace MB
open PySem PySem.Spec PyProof.Rows L2
/-- the thing at sysModules, tracked as it stands: a new thing then stands elsewhere -/
def sysO (oY : Obj) : HO := .frz oY (.ext fun h => h.get? sysModules = some oY)
theorem law_callS {P : Program} {w : World} {K : PySem.W.Frag} {mg mb : Str → Option Value} {k : Nat} {fa a : Addr} {fd : FuncData} {x : Str} {sp : Sp} {s₁ : Shared} {vs : List Value} {ns : List Int} {oY : Obj}
    (hKs : K.lookup sysModules = none) (hsy : s₁.heap.get? sysModules = some oY) (hna : a ≠ sysModules) (KX : K.In s₁.heap) (hns : s₁.heap.Ns mainGlobals mg) (hb : s₁.heap.Ns builtinsNs mb)
    (hbb : ∀ x : Str, x ≠ "__name__" → mb x = bootBuiltins x) (hlim : s₁.heap.NoLimit) (hg : s₁.gens = #[])
    (ha : s₁.heap.get? a = some { cls := .type "list", data := .seq vs.toArray }) (hi : IntsAre vs ns) (hl : ns.length ≤ sizeLine) (hr : Room k callerA)
    (F : ∀ base : Heap, K.In base → base.Ns mainGlobals mg → FnG P w K mg base CX0 k fa fd [x] sp) (hbind : ∀ (s : Shared) (u : Value), BindsTo s fd ⟨[u], []⟩ [(x, u)])
    (hsp : ∀ (H : Hp) (o : HO), SqL K H a (ns.map V.int) → H sysModules = some o → sp [.ref a] H (fun v _ => v = .bl true) fun _ _ _ => False) :
    codeAny (model P w) callerA (.call (.ref fa) ⟨[.ref a], []⟩) (fun r s' => r = .ok (.ret (.bool true)) ∧ OldK s₁.heap s'.heap ∧ s'.os = s₁.os ∧ AllBare s'.gens) s₁ := by
  let oS : Obj := { cls := .type "list", data := .seq vs.toArray }
  let H : Hp := fun b => if b = a ∧ K.lookup a = none then some (.frz oS (.lst (ns.map V.int))) else if b = sysModules then some (sysO oY) else none
  have Ha : K.lookup a = none → H a = some (.frz oS (.lst (ns.map V.int))) := fun hk => if_pos ⟨rfl, hk⟩
  have Hy : H sysModules = some (sysO oY) := (if_neg fun z => hna z.1.symm).trans (if_pos rfl)
  have rv := vals_ints hi
  have Hsome : ∀ {b : Addr} {o : HO}, H b = some o → (b = a ∧ o = .frz oS (.lst (ns.map V.int))) ∨ (b = sysModules ∧ o = sysO oY) := fun {b o} e => by
    by_cases c : b = a ∧ K.lookup a = none
    · have e' := (if_pos c).symm.trans e
      exact .inl ⟨c.1, (Option.some.inj e').symm⟩
    · by_cases c2 : b = sysModules
      · rw [c2, Hy] at e; exact .inr ⟨c2, (Option.some.inj e).symm⟩
      · have e' : H b = none := (if_neg c).trans (if_neg c2)
        rw [e'] at e; cases e
  have hfree : ∀ {b : Addr}, (b = a → K.lookup a ≠ none) → b ≠ sysModules → H b = none := fun {b} c c2 => (if_neg fun z => c z.1 z.2).trans (if_neg c2)
  have hS : SqL K H a (ns.map V.int) := by
    cases hk : K.lookup a with
    | none => exact .inl (.inr ⟨oS, Ha hk⟩)
    | some o =>
      have e := (KX a o hk).symm.trans ha
      cases e
      exact .inr ⟨_, vs.toArray, _, hk, rfl, rfl, rfl, by rw [List.size_toArray, hi.length]; exact hl, by simpa using rv⟩
  have hok : HOk P w H s₁.heap := fun b o e => by
    rcases Hsome e with ⟨rfl, rfl⟩ | ⟨rfl, rfl⟩
    · exact ⟨ha, by rw [List.length_map]; exact hl, vs, _, rv, ha⟩
    · exact ⟨hsy, hsy, ⟨_, hsy⟩, fun h1 h2 z kk => kk _ z⟩
  have notA : ∀ {b : Addr} {m : Str → Option Value}, s₁.heap.Ns b m → b ≠ a := fun {b m} ⟨o, es, ep, e, d, r⟩ z => by
    rw [z, ha] at e; cases e; cases d
  have ns_hid : ∀ {b : Addr} {m : Str → Option Value}, b ≠ sysModules → s₁.heap.Ns b m → (hidT s₁.heap H).Ns b m := fun {b m} hb x => by
    have h1 := notA x
    obtain ⟨o, es, ep, e, d, r⟩ := x
    exact ⟨o, es, ep, hidT_get e (hfree (fun z => absurd z h1) hb), d, r⟩
  have hKb : K.In (hidT s₁.heap H) := fun b o e => hidT_get (KX b o e) (hfree (fun z => by rw [z] at e; rw [e]; exact fun y => nomatch y) (fun z => by rw [z, hKs] at e; cases e))
  have hM : Mod K mg (hidT s₁.heap H) := ⟨hKb, ns_hid (by decide) hns, ⟨mb, ns_hid (by decide) hb, hbb⟩, let ⟨mc, h1, h2⟩ := hlim; ⟨mc, ns_hid (by decide) h1, h2⟩⟩
  have e0 : Env0 P w K mg (hidT s₁.heap H) callerA [] s₁ H := ⟨rfl, hM, fun b o e => of_hidT e, Nat.le_of_eq (hidT_size _ _), trivial, (fun b hb => absurd (show b ∈ ([] : List Addr) from hb) (by simp)), hok, .of_eq hg⟩
  refine codeAny_mono ((F _ hKb (ns_hid (by decide) hns)).run callerA rfl hr [] s₁ H ⟨[.ref a], []⟩ [.ref a] [.ref a] _ _ e0 (hbind s₁ (.ref a)) (.cons rfl .nil) (hsp H _ hS Hy)) fun r s' h => ?_
  rcases r with e | fl
  · exact False.elim h
  rcases fl with _ | _ | _ | u
  · exact False.elim h
  · exact False.elim h
  · exact False.elim h
  obtain ⟨v, H', os, bare, un, hok', r', q⟩ := h
  have q' : v = .bl true := q
  subst q'
  obtain rfl : u = Value.bool true := r'
  refine ⟨rfl, OldK.of_keep fun b o e => ?_, os, bare⟩
  cases hb' : H b with
  | none => exact un.keep b o e hb' (fun z => absurd (show b ∈ ([] : List Addr) from z) (by simp)) (by simp)
  | some u =>
    rcases Hsome hb' with ⟨rfl, rfl⟩ | ⟨rfl, rfl⟩
    · have e2 := (hok' _ _ (un.frzs _ oS _ hb')).1
      rw [ha] at e
      cases e
      exact e2
    · have e2 := (hok' _ _ (un.frzs _ oY _ hb')).1
      rw [hsy] at e
      cases e
      exact e2
theorem walk_ofS {l : PySem.W.OpenLaw} {n k : Nat} {q : Program} {loose : List Str} {XP : (Str → Option Value) → Heap → Prop} {YP : World → Heap → Prop} {d : DefRec} {K : Params → PySem.W.Frag} {sp : PySem.W.Frag → Sp} {x : Str}
    (hn : l.most = some n) (hn2 : n ≤ sizeLine) (hdf : d.params.defaults = []) (hr : Room k callerA) (him : importsNone q = true) (hKs : ∀ p, (K p).lookup sysModules = none)
    (hY : ∀ (w : World) (h : Heap), YP w h → (K w.params).In h)
    (F : ∀ (w : World) (mg : Str → Option Value) (fa : Addr) (h : Heap), (K w.params).In h → h.Ns mainGlobals mg → mg d.name = some (.ref fa) →
      ∃ fd : FuncData, (∀ (s : Shared) (u : Value), BindsTo s fd ⟨[u], []⟩ [(x, u)]) ∧
        ∀ base : Heap, (K w.params).In base → base.Ns mainGlobals mg → FnG l.prog w (K w.params) mg base CX0 k fa fd [x] (sp (K w.params)))
    (hsp : ∀ (K : PySem.W.Frag) (H : Hp) (a : Addr) (ns : List Int) (o : HO), ns.length ≤ n → SqL K H a (ns.map V.int) → H sysModules = some o → sp K [.ref a] H (fun v _ => v = .bl true) fun _ _ _ => False) :
    PySem.W.WalkO q loose XP YP l.row.toRowW d [] (fun f vs => PySem.call f vs) :=
  Att.attach_call hn hdf fun w s₀ s₁ mg mb fa o pm cd doc a vs ns G Y ho hd hcd hmg hobj hints hlen hg =>
    have KX := hY w _ Y
    let ⟨fd, hb, hF⟩ := F w mg fa _ KX G.T.g hmg
    let ⟨mm, hmm, _⟩ := (G.T.seer him).mods
    let ⟨oY, es, ep, eY, dY, _⟩ := hmm
    law_callS (hKs w.params) eY (fun z => by rw [z, eY] at hobj; cases hobj; cases dY) KX G.T.g G.T.b G.T.builtins G.T.nolimit hg hobj hints (Nat.le_trans hlen hn2) hr hF hb fun H o hS hy => hsp _ H a ns o hlen hS hy
end MB

namespace MB
/-! `in` and `not in` of deep lists: HandS.Deep -/
end MB

set_option maxHeartbeats 4000000
namespace MB
open PySem PySem.Spec PyProof.Rows L2
/-! ### a body whose first statement never ends in order -/
theorem pss_stop {X : Cx} {st : Stmt} {rest : List Stmt} {t : TS} (h1 : PS X st t) : PSs X (st :: rest) (fun D σ H => t { D with nx := fun _ _ => False } σ H) := by
  refine ⟨fun pins s σ H D I h => ?_⟩
  refine wpAny_execs_cons (thn (h1.run pins s σ H { D with nx := fun _ _ => False } I h) fun f s1 q => ?_)
  cases f with
  | next =>
    obtain ⟨_, _, _, q⟩ := q
    exact q.elim
  | ret v => exact q
  | brk => exact q
  | cont => exact q
/-! ### texts of data are texts -/
theorem strOk_of (s : String) : PyData.strOk (Str.ofString s) = true := by
  rw [Str.ofString_eq_toList]
  unfold PyData.strOk
  rw [← Array.all_toList, List.all_eq_true]
  intro c hc
  obtain ⟨z, _, rfl⟩ := List.mem_map.mp hc
  refine decide_eq_true ?_
  have h := z.valid
  have e : z.toNat = z.val.toNat := rfl
  rcases h with h | h
  · exact Nat.lt_trans (show z.toNat < 0xd800 from h) (by decide)
  · exact h.2
theorem strOk_app {a b : Str} (h1 : PyData.strOk a = true) (h2 : PyData.strOk b = true) : PyData.strOk (a ++ b) = true := by
  show (a.cps ++ b.cps).all _ = true
  rw [Array.all_append]
  rw [Bool.and_eq_true]
  exact ⟨h1, h2⟩
theorem strOk_join {sep : Str} (hs : PyData.strOk sep = true) : ∀ {ts : List Str}, (∀ t, t ∈ ts → PyData.strOk t = true) → PyData.strOk (Str.join sep ts) = true
  | [], _ => by show PyData.strOk Str.empty = true; decide +kernel
  | [x], h => h x (List.mem_cons_self ..)
  | x :: y :: r, h => by
    show PyData.strOk (x ++ sep ++ Str.join sep (y :: r)) = true
    exact strOk_app (strOk_app (h x (List.mem_cons_self ..)) hs) (strOk_join hs fun t ht => h t (List.mem_cons_of_mem _ ht))
theorem strOk_from : ∀ {ts : List Str} {k : Nat} {acc : Str}, PyData.strOk acc = true → (∀ t, t ∈ ts → PyData.strOk t = true) → PyData.strOk (textFrom k acc ts) = true
  | [], _, _, h, _ => h
  | t :: r, k, acc, h, ht => by
    refine strOk_from (ts := r) (k := k + 1) (acc := acc ++ (if k > 0 then ", " else "" : String) ++ t) (strOk_app (strOk_app h (strOk_of _)) (ht t (List.mem_cons_self ..))) fun x hx => ht x (List.mem_cons_of_mem _ hx)
theorem k_reprD {X : Cx} {K : PySem.W.Frag} (e : X.K = K) (hgd : X.A.guards = some []) (hu : X.A.units + 64 < cLine) : CallR X (.builtin "repr") (rReprD K) := by
  rw [← e]; exact call_reprD hgd hu
def SOk (d : PyData) : Prop := PyData.strOk d.shown = true
theorem shownAll_map : ∀ ds : List PyData, PyData.shownAll ds = ds.map PyData.shown
  | [] => rfl
  | d :: ds => by simp only [PyData.shownAll, List.map_cons, shownAll_map ds]
theorem SOk.int {i : Int} : SOk (.int i) := by unfold SOk; simp only [PyData.shown]; exact strOk_of _
theorem SOk.none : SOk .none := by unfold SOk; simp only [PyData.shown]; exact strOk_of _
theorem SOk.bool {b : Bool} : SOk (.bool b) := by unfold SOk; simp only [PyData.shown]; cases b <;> exact strOk_of _
theorem SOk.tup {ds : List PyData} (h : ∀ d, d ∈ ds → SOk d) : SOk (.tuple ds) := by
  unfold SOk
  simp only [PyData.shown]
  rw [shownAll_map]
  unfold tupleText
  refine strOk_app (strOk_app (strOk_of _) (strOk_join (strOk_of _) fun t ht => ?_)) (strOk_of _)
  obtain ⟨d, hd, rfl⟩ := List.mem_map.mp ht
  exact h d hd
theorem SOk.lst {ds : List PyData} (h : ∀ d, d ∈ ds → SOk d) : SOk (.list ds) := by
  unfold SOk
  simp only [PyData.shown]
  rw [shownAll_map]
  unfold listText
  refine strOk_app (strOk_from (strOk_of _) fun t ht => ?_) (strOk_of _)
  obtain ⟨d, hd, rfl⟩ := List.mem_map.mp ht
  exact h d hd
theorem SOk.ints {ns : List Int} : ∀ d, d ∈ ns.map PyData.int → SOk d := fun d hd => by
  obtain ⟨i, _, rfl⟩ := List.mem_map.mp hd
  exact .int
theorem SOk.dic1 {x : Str} {d : PyData} (hx : SOk (.str x)) (h : SOk d) : SOk (.dict [(.str x, d)]) := by
  unfold SOk at *
  simp only [PyData.shown, PyData.shownKv] at *
  unfold dictText
  exact strOk_app (strOk_app (strOk_of _) (strOk_join (strOk_of _) fun t ht => by
    rw [List.mem_singleton.mp ht]
    exact strOk_app (strOk_app hx (strOk_of _)) h)) (strOk_of _)
theorem Sh.str {x : Str} {k : Nat} (h : PyData.strOk x = true) : Sh k (.str x) := ⟨by simp only [PyData.canLay0]; exact h, by simp [PyData.depth]⟩
end MB

set_option maxHeartbeats 4000000
namespace MB
open PySem PySem.Spec PyProof.Rows L2
def topS (i : Nat) : Stmt := PySem.Challenge.pw_mergebudget_k44_bounds_within_of_any_kin.main.body.getD i (.Pass ⟨0, 0, 0, 0⟩)
abbrev s_is_int : Stmt := topS 8
abbrev N_is_int : List Str := ["value"]
theorem sc_is_int : FnScope N_is_int ["value"] (defScope s_is_int) := ⟨rfl, rfl, rfl, by decide +kernel, rfl, by decide +kernel, by decide +kernel⟩
abbrev s_is_count : Stmt := topS 9
abbrev N_is_count : List Str := ["value"]
theorem sc_is_count : FnScope N_is_count ["value"] (defScope s_is_count) := ⟨rfl, rfl, rfl, by decide +kernel, rfl, by decide +kernel, by decide +kernel⟩
abbrev s_is_count_up_to : Stmt := topS 10
abbrev N_is_count_up_to : List Str := ["value", "most"]
theorem sc_is_count_up_to : FnScope N_is_count_up_to ["value", "most"] (defScope s_is_count_up_to) := ⟨rfl, rfl, rfl, by decide +kernel, rfl, by decide +kernel, by decide +kernel⟩
abbrev s_check_budgets : Stmt := topS 11
abbrev N_check_budgets : List Str := ["k", "c", "most", "budget"]
theorem sc_check_budgets : FnScope N_check_budgets ["k", "c", "most"] (defScope s_check_budgets) := ⟨rfl, rfl, rfl, by decide +kernel, rfl, by decide +kernel, by decide +kernel⟩
abbrev s_are_loads : Stmt := topS 12
abbrev N_are_loads : List Str := ["value", "fewest", "most", "load"]
theorem sc_are_loads : FnScope N_are_loads ["value", "fewest", "most"] (defScope s_are_loads) := ⟨rfl, rfl, rfl, by decide +kernel, rfl, by decide +kernel, by decide +kernel⟩
abbrev s_check_sizes : Stmt := topS 13
abbrev N_check_sizes : List Str := ["sizes", "fewest", "most"]
theorem sc_check_sizes : FnScope N_check_sizes ["sizes", "fewest", "most"] (defScope s_check_sizes) := ⟨rfl, rfl, rfl, by decide +kernel, rfl, by decide +kernel, by decide +kernel⟩
abbrev s_check_reads : Stmt := topS 14
abbrev N_check_reads : List Str := ["reads", "flushes"]
theorem sc_check_reads : FnScope N_check_reads ["reads", "flushes"] (defScope s_check_reads) := ⟨rfl, rfl, rfl, by decide +kernel, rfl, by decide +kernel, by decide +kernel⟩
abbrev s_check_loads : Stmt := topS 15
abbrev N_check_loads : List Str := ["sizes", "reads", "most"]
theorem sc_check_loads : FnScope N_check_loads ["sizes", "reads", "most"] (defScope s_check_loads) := ⟨rfl, rfl, rfl, by decide +kernel, rfl, by decide +kernel, by decide +kernel⟩
abbrev s_load_sums : Stmt := topS 17
abbrev N_load_sums : List Str := ["sizes", "reads"]
theorem sc_load_sums : FnScope N_load_sums ["sizes", "reads"] (defScope s_load_sums) := ⟨rfl, rfl, rfl, by decide +kernel, rfl, by decide +kernel, by decide +kernel⟩
abbrev s_running_sums : Stmt := topS 18
abbrev N_running_sums : List Str := ["loads", "sums", "load"]
theorem sc_running_sums : FnScope N_running_sums ["loads"] (defScope s_running_sums) := ⟨rfl, rfl, rfl, by decide +kernel, rfl, by decide +kernel, by decide +kernel⟩
abbrev s_works_by_root : Stmt := topS 19
abbrev N_works_by_root : List Str := ["lefts", "rights", "sums", "start", "stop", "found", "root", "left", "right"]
theorem sc_works_by_root : FnScope N_works_by_root ["lefts", "rights", "sums", "start", "stop"] (defScope s_works_by_root) := ⟨rfl, rfl, rfl, by decide +kernel, rfl, by decide +kernel, by decide +kernel⟩
abbrev s_root_cost : Stmt := topS 20
abbrev N_root_cost : List Str := ["sums", "start", "stop", "root", "sizes", "reads"]
theorem sc_root_cost : FnScope N_root_cost ["sums", "start", "stop", "root"] (defScope s_root_cost) := ⟨rfl, rfl, rfl, by decide +kernel, rfl, by decide +kernel, by decide +kernel⟩
abbrev s_lifetime : Stmt := topS 22
abbrev N_lifetime : List Str := ["k", "c"]
theorem sc_lifetime : FnScope N_lifetime ["k", "c"] (defScope s_lifetime) := ⟨rfl, rfl, rfl, by decide +kernel, rfl, by decide +kernel, by decide +kernel⟩
abbrev s_choose : Stmt := topS 23
abbrev N_choose : List Str := ["n", "k", "result", "factor"]
theorem sc_choose : FnScope N_choose ["n", "k"] (defScope s_choose) := ⟨rfl, rfl, rfl, by decide +kernel, rfl, by decide +kernel, by decide +kernel⟩
abbrev s_has_shape : Stmt := topS 25
abbrev N_has_shape : List Str := ["value", "n", "start", "row"]
theorem sc_has_shape : FnScope N_has_shape ["value", "n"] (defScope s_has_shape) := ⟨rfl, rfl, rfl, by decide +kernel, rfl, by decide +kernel, by decide +kernel⟩
abbrev s_intervals : Stmt := topS 26
abbrev N_intervals : List Str := ["n", "start", "stop"]
theorem sc_intervals : FnScope N_intervals ["n"] (defScope s_intervals) := ⟨rfl, rfl, rfl, by decide +kernel, rfl, by decide +kernel, by decide +kernel⟩
abbrev s_is_low : Stmt := topS 27
abbrev N_is_low : List Str := ["rows", "lefts", "rights", "sums", "start", "stop", "bound", "most", "root"]
theorem sc_is_low : FnScope N_is_low ["rows", "lefts", "rights", "sums", "start", "stop"] (defScope s_is_low) := ⟨rfl, rfl, rfl, by decide +kernel, rfl, by decide +kernel, by decide +kernel⟩
abbrev s_check_arguments : Stmt := topS 31
abbrev N_check_arguments : List Str := ["sizes", "reads", "k", "c"]
theorem sc_check_arguments : FnScope N_check_arguments ["sizes", "reads", "k", "c"] (defScope s_check_arguments) := ⟨rfl, rfl, rfl, by decide +kernel, rfl, by decide +kernel, by decide +kernel⟩
abbrev s_least_tables : Stmt := topS 32
abbrev N_least_tables : List Str := ["sizes", "reads", "k", "c", "n", "sums", "tables", "b", "a", "row"]
theorem sc_least_tables : FnScope N_least_tables ["sizes", "reads", "k", "c"] (defScope s_least_tables) := ⟨rfl, rfl, rfl, by decide +kernel, rfl, by decide +kernel, by decide +kernel⟩
abbrev s_rows_without_trees : Stmt := topS 33
abbrev N_rows_without_trees : List Str := ["n", "start"]
theorem sc_rows_without_trees : FnScope N_rows_without_trees ["n"] (defScope s_rows_without_trees) := ⟨rfl, rfl, rfl, by decide +kernel, rfl, by decide +kernel, by decide +kernel⟩
abbrev s_rows_over : Stmt := topS 34
abbrev N_rows_over : List Str := ["lefts", "rights", "sums", "n", "rows", "start", "row", "stop", "least", "root"]
theorem sc_rows_over : FnScope N_rows_over ["lefts", "rights", "sums", "n"] (defScope s_rows_over) := ⟨rfl, rfl, rfl, by decide +kernel, rfl, by decide +kernel, by decide +kernel⟩
abbrev s_table_within : Stmt := topS 35
abbrev N_table_within : List Str := ["sizes", "reads", "k", "c"]
theorem sc_table_within : FnScope N_table_within ["sizes", "reads", "k", "c"] (defScope s_table_within) := ⟨rfl, rfl, rfl, by decide +kernel, rfl, by decide +kernel, by decide +kernel⟩
abbrev s_shows_bound_within : Stmt := topS 36
abbrev N_shows_bound_within : List Str := ["sizes", "reads", "k", "c", "bound", "value", "n", "budgets", "sums", "b", "a"]
theorem sc_shows_bound_within : FnScope N_shows_bound_within ["sizes", "reads", "k", "c", "bound", "value"] (defScope s_shows_bound_within) := ⟨rfl, rfl, rfl, by decide +kernel, rfl, by decide +kernel, by decide +kernel⟩
abbrev s_is_bound : Stmt := topS 37
abbrev N_is_bound : List Str := ["value"]
theorem sc_is_bound : FnScope N_is_bound ["value"] (defScope s_is_bound) := ⟨rfl, rfl, rfl, by decide +kernel, rfl, by decide +kernel, by decide +kernel⟩
abbrev s_is_grid : Stmt := topS 38
abbrev N_is_grid : List Str := ["value", "k", "c", "row"]
theorem sc_is_grid : FnScope N_is_grid ["value", "k", "c"] (defScope s_is_grid) := ⟨rfl, rfl, rfl, by decide +kernel, rfl, by decide +kernel, by decide +kernel⟩
abbrev s_has_bounds : Stmt := topS 39
abbrev N_has_bounds : List Str := ["value", "n", "longest", "row", "flushes", "bound"]
theorem sc_has_bounds : FnScope N_has_bounds ["value", "n", "longest"] (defScope s_has_bounds) := ⟨rfl, rfl, rfl, by decide +kernel, rfl, by decide +kernel, by decide +kernel⟩
abbrev s_is_table_of : Stmt := topS 40
abbrev N_is_table_of : List Str := ["tables", "sums", "b", "a", "n", "rows", "lefts", "rights", "known", "start", "stop"]
theorem sc_is_table_of : FnScope N_is_table_of ["tables", "sums", "b", "a", "n"] (defScope s_is_table_of) := ⟨rfl, rfl, rfl, by decide +kernel, rfl, by decide +kernel, by decide +kernel⟩
abbrev s_L_pot : Stmt := topS 42
abbrev N_L_pot : List Str := ["_law_script", "_law_k", "_law_cell", "_law_far"]
theorem sc_L_pot : FnScope N_L_pot ["_law_script", "_law_k"] (defScope s_L_pot) := ⟨rfl, rfl, rfl, by decide +kernel, rfl, by decide +kernel, by decide +kernel⟩
abbrev s_L_take : Stmt := topS 43
abbrev N_L_take : List Str := ["_law_pot_here", "_law_wide", "_law_digit", "_law_primes", "_law_prime", "_law_drawn"]
theorem sc_L_take : FnScope N_L_take ["_law_pot_here", "_law_wide"] (defScope s_L_take) := ⟨rfl, rfl, rfl, by decide +kernel, rfl, by decide +kernel, by decide +kernel⟩
abbrev s_L_of : Stmt := topS 44
abbrev N_L_of : List Str := ["_law_pot_here", "_law_some"]
theorem sc_L_of : FnScope N_L_of ["_law_pot_here", "_law_some"] (defScope s_L_of) := ⟨rfl, rfl, rfl, by decide +kernel, rfl, by decide +kernel, by decide +kernel⟩
abbrev s_L_load : Stmt := topS 45
abbrev N_L_load : List Str := ["_law_pot_here", "_law_count", "_law_wide", "_law_style", "_law_level", "_law_found", "_law_turn", "_law_some"]
theorem sc_L_load : FnScope N_L_load ["_law_pot_here", "_law_count", "_law_wide"] (defScope s_L_load) := ⟨rfl, rfl, rfl, by decide +kernel, rfl, by decide +kernel, by decide +kernel⟩
abbrev s_L_sums : Stmt := topS 46
abbrev N_L_sums : List Str := ["_law_some", "_law_found", "_law_one"]
theorem sc_L_sums : FnScope N_L_sums ["_law_some"] (defScope s_L_sums) := ⟨rfl, rfl, rfl, by decide +kernel, rfl, by decide +kernel, by decide +kernel⟩
abbrev s_L_odd : Stmt := topS 47
abbrev N_L_odd : List Str := ["_law_pot_here", "_law_some", "_law_thing", "_law_turn"]
theorem sc_L_odd : FnScope N_L_odd ["_law_pot_here"] (defScope s_L_odd) := ⟨rfl, rfl, rfl, by decide +kernel, rfl, by decide +kernel, by decide +kernel⟩
abbrev s_L_bent : Stmt := topS 48
abbrev N_L_bent : List Str := ["_law_pot_here", "_law_thing", "_law_spot", "_law_way"]
theorem sc_L_bent : FnScope N_L_bent ["_law_pot_here", "_law_thing"] (defScope s_L_bent) := ⟨rfl, rfl, rfl, by decide +kernel, rfl, by decide +kernel, by decide +kernel⟩
abbrev s_L_is_int : Stmt := topS 49
abbrev N_L_is_int : List Str := ["_law_thing"]
theorem sc_L_is_int : FnScope N_L_is_int ["_law_thing"] (defScope s_L_is_int) := ⟨rfl, rfl, rfl, by decide +kernel, rfl, by decide +kernel, by decide +kernel⟩
abbrev s_L_has_shape : Stmt := topS 50
abbrev N_L_has_shape : List Str := ["_law_count", "_law_thing", "_law_i", "_law_row"]
theorem sc_L_has_shape : FnScope N_L_has_shape ["_law_count", "_law_thing"] (defScope s_L_has_shape) := ⟨rfl, rfl, rfl, by decide +kernel, rfl, by decide +kernel, by decide +kernel⟩
abbrev s_L_life : Stmt := topS 51
abbrev N_L_life : List Str := ["_law_k", "_law_c", "_law_row", "_law_runs", "_law_times"]
theorem sc_L_life : FnScope N_L_life ["_law_k", "_law_c"] (defScope s_L_life) := ⟨rfl, rfl, rfl, by decide +kernel, rfl, by decide +kernel, by decide +kernel⟩
abbrev s_L_has_all_shapes : Stmt := topS 52
abbrev N_L_has_all_shapes : List Str := ["_law_count", "_law_k", "_law_c", "_law_thing", "_law_line", "_law_rows", "_law_row", "_law_one"]
theorem sc_L_has_all_shapes : FnScope N_L_has_all_shapes ["_law_count", "_law_k", "_law_c", "_law_thing"] (defScope s_L_has_all_shapes) := ⟨rfl, rfl, rfl, by decide +kernel, rfl, by decide +kernel, by decide +kernel⟩
abbrev s_L_obeys : Stmt := topS 53
abbrev N_L_obeys : List Str := ["_law_bulk", "_law_looks", "_law_thing", "_law_b", "_law_a", "_law_rows", "_law_heavy", "_law_seen", "_law_i", "_law_row", "_law_long", "_law_one", "_law_t", "_law_j", "_law_left", "_law_right_here", "_law_own"]
theorem sc_L_obeys : FnScope N_L_obeys ["_law_bulk", "_law_looks", "_law_thing", "_law_b", "_law_a"] (defScope s_L_obeys) := ⟨rfl, rfl, rfl, by decide +kernel, rfl, by decide +kernel, by decide +kernel⟩
abbrev s_L_certifies : Stmt := topS 54
abbrev N_L_certifies : List Str := ["_law_bulk", "_law_looks", "_law_k", "_law_c", "_law_thing", "_law_b", "_law_a"]
theorem sc_L_certifies : FnScope N_L_certifies ["_law_bulk", "_law_looks", "_law_k", "_law_c", "_law_thing"] (defScope s_L_certifies) := ⟨rfl, rfl, rfl, by decide +kernel, rfl, by decide +kernel, by decide +kernel⟩
abbrev s_L_shifted : Stmt := topS 55
abbrev N_L_shifted : List Str := ["_law_pot_here", "_law_thing", "_law_by", "_law_b", "_law_a", "_law_rows", "_law_i", "_law_spot", "_law_row", "_law_one", "_law_line"]
theorem sc_L_shifted : FnScope N_L_shifted ["_law_pot_here", "_law_thing", "_law_by"] (defScope s_L_shifted) := ⟨rfl, rfl, rfl, by decide +kernel, rfl, by decide +kernel, by decide +kernel⟩
abbrev s_L_right : Stmt := topS 56
abbrev N_L_right : List Str := ["_law_pot_here", "_law_count", "_law_wide", "_law_bulk", "_law_looks", "_law_k", "_law_c", "_law_things", "_law_thing", "_law_is_right_paper", "_law_best", "_law_bound", "_law_noted", "_law_due", "_law_told", "_law_by", "_law_turn"]
theorem sc_L_right : FnScope N_L_right ["_law_pot_here"] (defScope s_L_right) := ⟨rfl, rfl, rfl, by decide +kernel, rfl, by decide +kernel, by decide +kernel⟩
abbrev s_law : Stmt := topS 57
abbrev N_law : List Str := ["_law_script", "_law_k"]
theorem sc_law : FnScope N_law ["_law_script"] (defScope s_law) := ⟨rfl, rfl, rfl, by decide +kernel, rfl, by decide +kernel, by decide +kernel⟩
set_option genInjectivity false in
set_option genSizeOfSpec false in
structure Tx (K : PySem.W.Frag) (mg : Str → Option Value) where
  a_is_int : Addr
  fd_is_int : FuncData
  f_is_int : Fun K "is_int" "is_int" s_is_int a_is_int fd_is_int
  g_is_int : mg "is_int" = some (.ref a_is_int)
  bd_is_int : Binds K fd_is_int ["value"] []
  a_is_count : Addr
  fd_is_count : FuncData
  f_is_count : Fun K "is_count" "is_count" s_is_count a_is_count fd_is_count
  g_is_count : mg "is_count" = some (.ref a_is_count)
  bd_is_count : Binds K fd_is_count ["value"] []
  a_is_count_up_to : Addr
  fd_is_count_up_to : FuncData
  f_is_count_up_to : Fun K "is_count_up_to" "is_count_up_to" s_is_count_up_to a_is_count_up_to fd_is_count_up_to
  g_is_count_up_to : mg "is_count_up_to" = some (.ref a_is_count_up_to)
  bd_is_count_up_to : Binds K fd_is_count_up_to ["value", "most"] []
  a_check_budgets : Addr
  fd_check_budgets : FuncData
  f_check_budgets : Fun K "check_budgets" "check_budgets" s_check_budgets a_check_budgets fd_check_budgets
  g_check_budgets : mg "check_budgets" = some (.ref a_check_budgets)
  bd_check_budgets : Binds K fd_check_budgets ["k", "c", "most"] []
  a_are_loads : Addr
  fd_are_loads : FuncData
  f_are_loads : Fun K "are_loads" "are_loads" s_are_loads a_are_loads fd_are_loads
  g_are_loads : mg "are_loads" = some (.ref a_are_loads)
  bd_are_loads : Binds K fd_are_loads ["value", "fewest", "most"] []
  a_check_sizes : Addr
  fd_check_sizes : FuncData
  f_check_sizes : Fun K "check_sizes" "check_sizes" s_check_sizes a_check_sizes fd_check_sizes
  g_check_sizes : mg "check_sizes" = some (.ref a_check_sizes)
  bd_check_sizes : Binds K fd_check_sizes ["sizes", "fewest", "most"] []
  a_check_reads : Addr
  fd_check_reads : FuncData
  f_check_reads : Fun K "check_reads" "check_reads" s_check_reads a_check_reads fd_check_reads
  g_check_reads : mg "check_reads" = some (.ref a_check_reads)
  bd_check_reads : Binds K fd_check_reads ["reads", "flushes"] []
  a_check_loads : Addr
  fd_check_loads : FuncData
  f_check_loads : Fun K "check_loads" "check_loads" s_check_loads a_check_loads fd_check_loads
  g_check_loads : mg "check_loads" = some (.ref a_check_loads)
  bd_check_loads : Binds K fd_check_loads ["sizes", "reads", "most"] []
  a_load_sums : Addr
  fd_load_sums : FuncData
  f_load_sums : Fun K "load_sums" "load_sums" s_load_sums a_load_sums fd_load_sums
  g_load_sums : mg "load_sums" = some (.ref a_load_sums)
  bd_load_sums : Binds K fd_load_sums ["sizes", "reads"] []
  a_running_sums : Addr
  fd_running_sums : FuncData
  f_running_sums : Fun K "running_sums" "running_sums" s_running_sums a_running_sums fd_running_sums
  g_running_sums : mg "running_sums" = some (.ref a_running_sums)
  bd_running_sums : Binds K fd_running_sums ["loads"] []
  a_works_by_root : Addr
  fd_works_by_root : FuncData
  f_works_by_root : Fun K "works_by_root" "works_by_root" s_works_by_root a_works_by_root fd_works_by_root
  g_works_by_root : mg "works_by_root" = some (.ref a_works_by_root)
  bd_works_by_root : Binds K fd_works_by_root ["lefts", "rights", "sums", "start", "stop"] []
  a_root_cost : Addr
  fd_root_cost : FuncData
  f_root_cost : Fun K "root_cost" "root_cost" s_root_cost a_root_cost fd_root_cost
  g_root_cost : mg "root_cost" = some (.ref a_root_cost)
  bd_root_cost : Binds K fd_root_cost ["sums", "start", "stop", "root"] []
  a_lifetime : Addr
  fd_lifetime : FuncData
  f_lifetime : Fun K "lifetime" "lifetime" s_lifetime a_lifetime fd_lifetime
  g_lifetime : mg "lifetime" = some (.ref a_lifetime)
  bd_lifetime : Binds K fd_lifetime ["k", "c"] []
  a_choose : Addr
  fd_choose : FuncData
  f_choose : Fun K "choose" "choose" s_choose a_choose fd_choose
  g_choose : mg "choose" = some (.ref a_choose)
  bd_choose : Binds K fd_choose ["n", "k"] []
  a_has_shape : Addr
  fd_has_shape : FuncData
  f_has_shape : Fun K "has_shape" "has_shape" s_has_shape a_has_shape fd_has_shape
  g_has_shape : mg "has_shape" = some (.ref a_has_shape)
  bd_has_shape : Binds K fd_has_shape ["value", "n"] []
  a_intervals : Addr
  fd_intervals : FuncData
  f_intervals : Fun K "intervals" "intervals" s_intervals a_intervals fd_intervals
  g_intervals : mg "intervals" = some (.ref a_intervals)
  bd_intervals : Binds K fd_intervals ["n"] []
  a_is_low : Addr
  fd_is_low : FuncData
  f_is_low : Fun K "is_low" "is_low" s_is_low a_is_low fd_is_low
  g_is_low : mg "is_low" = some (.ref a_is_low)
  bd_is_low : Binds K fd_is_low ["rows", "lefts", "rights", "sums", "start", "stop"] []
  a_check_arguments : Addr
  fd_check_arguments : FuncData
  f_check_arguments : Fun K "check_arguments" "check_arguments" s_check_arguments a_check_arguments fd_check_arguments
  g_check_arguments : mg "check_arguments" = some (.ref a_check_arguments)
  bd_check_arguments : Binds K fd_check_arguments ["sizes", "reads", "k", "c"] []
  a_least_tables : Addr
  fd_least_tables : FuncData
  f_least_tables : Fun K "least_tables" "least_tables" s_least_tables a_least_tables fd_least_tables
  g_least_tables : mg "least_tables" = some (.ref a_least_tables)
  bd_least_tables : Binds K fd_least_tables ["sizes", "reads", "k", "c"] []
  a_rows_without_trees : Addr
  fd_rows_without_trees : FuncData
  f_rows_without_trees : Fun K "rows_without_trees" "rows_without_trees" s_rows_without_trees a_rows_without_trees fd_rows_without_trees
  g_rows_without_trees : mg "rows_without_trees" = some (.ref a_rows_without_trees)
  bd_rows_without_trees : Binds K fd_rows_without_trees ["n"] []
  a_rows_over : Addr
  fd_rows_over : FuncData
  f_rows_over : Fun K "rows_over" "rows_over" s_rows_over a_rows_over fd_rows_over
  g_rows_over : mg "rows_over" = some (.ref a_rows_over)
  bd_rows_over : Binds K fd_rows_over ["lefts", "rights", "sums", "n"] []
  a_table_within : Addr
  fd_table_within : FuncData
  f_table_within : Fun K "table_within" "table_within" s_table_within a_table_within fd_table_within
  g_table_within : mg "table_within" = some (.ref a_table_within)
  bd_table_within : Binds K fd_table_within ["sizes", "reads", "k", "c"] []
  a_shows_bound_within : Addr
  fd_shows_bound_within : FuncData
  f_shows_bound_within : Fun K "shows_bound_within" "shows_bound_within" s_shows_bound_within a_shows_bound_within fd_shows_bound_within
  g_shows_bound_within : mg "shows_bound_within" = some (.ref a_shows_bound_within)
  bd_shows_bound_within : Binds K fd_shows_bound_within ["sizes", "reads", "k", "c", "bound", "value"] []
  a_is_bound : Addr
  fd_is_bound : FuncData
  f_is_bound : Fun K "is_bound" "is_bound" s_is_bound a_is_bound fd_is_bound
  g_is_bound : mg "is_bound" = some (.ref a_is_bound)
  bd_is_bound : Binds K fd_is_bound ["value"] []
  a_is_grid : Addr
  fd_is_grid : FuncData
  f_is_grid : Fun K "is_grid" "is_grid" s_is_grid a_is_grid fd_is_grid
  g_is_grid : mg "is_grid" = some (.ref a_is_grid)
  bd_is_grid : Binds K fd_is_grid ["value", "k", "c"] []
  a_has_bounds : Addr
  fd_has_bounds : FuncData
  f_has_bounds : Fun K "has_bounds" "has_bounds" s_has_bounds a_has_bounds fd_has_bounds
  g_has_bounds : mg "has_bounds" = some (.ref a_has_bounds)
  bd_has_bounds : Binds K fd_has_bounds ["value", "n", "longest"] []
  a_is_table_of : Addr
  fd_is_table_of : FuncData
  f_is_table_of : Fun K "is_table_of" "is_table_of" s_is_table_of a_is_table_of fd_is_table_of
  g_is_table_of : mg "is_table_of" = some (.ref a_is_table_of)
  bd_is_table_of : Binds K fd_is_table_of ["tables", "sums", "b", "a", "n"] []
  a_L_pot : Addr
  fd_L_pot : FuncData
  f_L_pot : Fun K "_law_pot" "_law_pot" s_L_pot a_L_pot fd_L_pot
  g_L_pot : mg "_law_pot" = some (.ref a_L_pot)
  bd_L_pot : Binds K fd_L_pot ["_law_script", "_law_k"] []
  a_L_take : Addr
  fd_L_take : FuncData
  f_L_take : Fun K "_law_take" "_law_take" s_L_take a_L_take fd_L_take
  g_L_take : mg "_law_take" = some (.ref a_L_take)
  bd_L_take : Binds K fd_L_take ["_law_pot_here", "_law_wide"] []
  a_L_of : Addr
  fd_L_of : FuncData
  f_L_of : Fun K "_law_of" "_law_of" s_L_of a_L_of fd_L_of
  g_L_of : mg "_law_of" = some (.ref a_L_of)
  bd_L_of : Binds K fd_L_of ["_law_pot_here", "_law_some"] []
  a_L_load : Addr
  fd_L_load : FuncData
  f_L_load : Fun K "_law_load" "_law_load" s_L_load a_L_load fd_L_load
  g_L_load : mg "_law_load" = some (.ref a_L_load)
  bd_L_load : Binds K fd_L_load ["_law_pot_here", "_law_count", "_law_wide"] []
  a_L_sums : Addr
  fd_L_sums : FuncData
  f_L_sums : Fun K "_law_sums" "_law_sums" s_L_sums a_L_sums fd_L_sums
  g_L_sums : mg "_law_sums" = some (.ref a_L_sums)
  bd_L_sums : Binds K fd_L_sums ["_law_some"] []
  a_L_odd : Addr
  fd_L_odd : FuncData
  f_L_odd : Fun K "_law_odd" "_law_odd" s_L_odd a_L_odd fd_L_odd
  g_L_odd : mg "_law_odd" = some (.ref a_L_odd)
  bd_L_odd : Binds K fd_L_odd ["_law_pot_here"] []
  a_L_bent : Addr
  fd_L_bent : FuncData
  f_L_bent : Fun K "_law_bent" "_law_bent" s_L_bent a_L_bent fd_L_bent
  g_L_bent : mg "_law_bent" = some (.ref a_L_bent)
  bd_L_bent : Binds K fd_L_bent ["_law_pot_here", "_law_thing"] []
  a_L_is_int : Addr
  fd_L_is_int : FuncData
  f_L_is_int : Fun K "_law_is_int" "_law_is_int" s_L_is_int a_L_is_int fd_L_is_int
  g_L_is_int : mg "_law_is_int" = some (.ref a_L_is_int)
  bd_L_is_int : Binds K fd_L_is_int ["_law_thing"] []
  a_L_has_shape : Addr
  fd_L_has_shape : FuncData
  f_L_has_shape : Fun K "_law_has_shape" "_law_has_shape" s_L_has_shape a_L_has_shape fd_L_has_shape
  g_L_has_shape : mg "_law_has_shape" = some (.ref a_L_has_shape)
  bd_L_has_shape : Binds K fd_L_has_shape ["_law_count", "_law_thing"] []
  a_L_life : Addr
  fd_L_life : FuncData
  f_L_life : Fun K "_law_life" "_law_life" s_L_life a_L_life fd_L_life
  g_L_life : mg "_law_life" = some (.ref a_L_life)
  bd_L_life : Binds K fd_L_life ["_law_k", "_law_c"] []
  a_L_has_all_shapes : Addr
  fd_L_has_all_shapes : FuncData
  f_L_has_all_shapes : Fun K "_law_has_all_shapes" "_law_has_all_shapes" s_L_has_all_shapes a_L_has_all_shapes fd_L_has_all_shapes
  g_L_has_all_shapes : mg "_law_has_all_shapes" = some (.ref a_L_has_all_shapes)
  bd_L_has_all_shapes : Binds K fd_L_has_all_shapes ["_law_count", "_law_k", "_law_c", "_law_thing"] []
  a_L_obeys : Addr
  fd_L_obeys : FuncData
  f_L_obeys : Fun K "_law_obeys" "_law_obeys" s_L_obeys a_L_obeys fd_L_obeys
  g_L_obeys : mg "_law_obeys" = some (.ref a_L_obeys)
  bd_L_obeys : Binds K fd_L_obeys ["_law_bulk", "_law_looks", "_law_thing", "_law_b", "_law_a"] []
  a_L_certifies : Addr
  fd_L_certifies : FuncData
  f_L_certifies : Fun K "_law_certifies" "_law_certifies" s_L_certifies a_L_certifies fd_L_certifies
  g_L_certifies : mg "_law_certifies" = some (.ref a_L_certifies)
  bd_L_certifies : Binds K fd_L_certifies ["_law_bulk", "_law_looks", "_law_k", "_law_c", "_law_thing"] []
  a_L_shifted : Addr
  fd_L_shifted : FuncData
  f_L_shifted : Fun K "_law_shifted" "_law_shifted" s_L_shifted a_L_shifted fd_L_shifted
  g_L_shifted : mg "_law_shifted" = some (.ref a_L_shifted)
  bd_L_shifted : Binds K fd_L_shifted ["_law_pot_here", "_law_thing", "_law_by"] []
  a_L_right : Addr
  fd_L_right : FuncData
  f_L_right : Fun K "_law_right" "_law_right" s_L_right a_L_right fd_L_right
  g_L_right : mg "_law_right" = some (.ref a_L_right)
  bd_L_right : Binds K fd_L_right ["_law_pot_here"] []
  a_law : Addr
  fd_law : FuncData
  f_law : Fun K "law" "law" s_law a_law fd_law
  g_law : mg "law" = some (.ref a_law)
  bd_law : Binds K fd_law ["_law_script"] []
  b_isinstance : mg "isinstance" = none
  b_int : mg "int" = none
  b_bool : mg "bool" = none
  b_all : mg "all" = none
  b_tuple : mg "tuple" = none
  b_len : mg "len" = none
  b_range : mg "range" = none
  b_min : mg "min" = none
  b_enumerate : mg "enumerate" = none
  b_abs : mg "abs" = none
  b_list : mg "list" = none
  b_str : mg "str" = none
  b_repr : mg "repr" = none
  t_MOST_BUDGET : Tok
  c_MOST_BUDGET : mg "MOST_BUDGET" = some (.int (60) t_MOST_BUDGET)
  t_MOST_LOAD : Tok
  c_MOST_LOAD : mg "MOST_LOAD" = some (.int (1000000000) t_MOST_LOAD)
  t_MOST_BOUNDED_FLUSHES : Tok
  c_MOST_BOUNDED_FLUSHES : mg "MOST_BOUNDED_FLUSHES" = some (.int (14) t_MOST_BOUNDED_FLUSHES)
  t_MOST_BOUNDED_BUDGET : Tok
  c_MOST_BOUNDED_BUDGET : mg "MOST_BOUNDED_BUDGET" = some (.int (8) t_MOST_BOUNDED_BUDGET)
section
variable {P : Program} {w : World} {K : PySem.W.Frag} {mg : Str → Option Value} {base : Heap}
def sp_is_int (K : PySem.W.Frag) : Sp := fun vs H Q _ => ∃ i : Int, vs = [.int i] ∧ Q (.bl true) H
theorem ok_is_int (TX : Tx K mg) : FnOk P w K mg base CX0 1 TX.a_is_int TX.fd_is_int ["value"] (sp_is_int K) := by
  refine TX.f_is_int.ok sc_is_int (fun vs H Q E h => ?_) (fun cdv A outer s H vs Q E hr h => ?_)
  · obtain ⟨i, rfl, _⟩ := h; rfl
  · obtain ⟨i, rfl, q⟩ := h
    refine ⟨_, (pss_one (ps_ret (pe_and (pe_callB (id := "isinstance") (k_isi (K := K) rfl) (by rfl) TX.b_isinstance (by decide +kernel) (pa_cons (pv 0) (pa_cons (pe_bltn (v := .ty "int") (by rfl) TX.b_int (by decide +kernel) rfl) pa_nil))) (pe_one (pe_not (pe_callB (id := "isinstance") (k_isi (K := K) rfl) (by rfl) TX.b_isinstance (by decide +kernel) (pa_cons (pv 0) (pa_cons (pe_bltn (v := .ty "bool") (by rfl) TX.b_bool (by decide +kernel) rfl) pa_nil)))))))), ?_⟩
    refine ⟨.int i, rfl, .int i, .ty "int", .type "int", .type "int", true, rfl, .ty _, .base (.int i), kit_ty (by decide +kernel), true, rfl, ?_⟩
    exact iteT ⟨.int i, rfl, .int i, .ty "bool", .type "int", .type "bool", false, rfl, .ty _, .base (.int i), kit_ty (by decide +kernel), false, rfl, q⟩
def sp_is_count (K : PySem.W.Frag) : Sp := fun vs H Q _ => ∃ i : Int, vs = [.int i] ∧ Q (.bl (decide (0 ≤ i))) H
theorem ok_is_count (TX : Tx K mg) : FnOk P w K mg base CX0 2 TX.a_is_count TX.fd_is_count ["value"] (sp_is_count K) := by
  refine TX.f_is_count.ok sc_is_count (fun vs H Q E h => ?_) (fun cdv A outer s H vs Q E hr h => ?_)
  · obtain ⟨i, rfl, _⟩ := h; rfl
  · obtain ⟨i, rfl, q⟩ := h
    refine ⟨_, (pss_one (ps_ret (pe_and (pe_call (ok_is_int TX) (hr.mono (by decide)) (by rfl) TX.g_is_int TX.f_is_int.kp TX.bd_is_int .nil pass0 (pa_cons (pv 0) pa_nil)) (pe_one (pe_cmpR op_ge (pv 0) pe_int (nomark _)))))), ?_⟩
    exact ⟨.int i, rfl, i, rfl, true, rfl, iteT ⟨.int i, rfl, i, 0, rfl, rfl, q⟩⟩
def sp_is_count_up_to (K : PySem.W.Frag) : Sp := fun vs H Q _ => ∃ i m : Int, vs = [.int i, .int m] ∧ Q (.bl (decide (0 ≤ i) && decide (i ≤ m))) H
theorem ok_is_count_up_to (TX : Tx K mg) : FnOk P w K mg base CX0 3 TX.a_is_count_up_to TX.fd_is_count_up_to ["value", "most"] (sp_is_count_up_to K) := by
  refine TX.f_is_count_up_to.ok sc_is_count_up_to (fun vs H Q E h => ?_) (fun cdv A outer s H vs Q E hr h => ?_)
  · obtain ⟨i, m, rfl, _⟩ := h; rfl
  · obtain ⟨i, m, rfl, q⟩ := h
    refine ⟨_, (pss_one (ps_ret (pe_and (pe_call (ok_is_count TX) (hr.mono (by decide)) (by rfl) TX.g_is_count TX.f_is_count.kp TX.bd_is_count .nil pass0 (pa_cons (pv 0) pa_nil)) (pe_one (pe_cmpR op_le (pv 0) (pv 1) (nomark _)))))), ?_⟩
    refine ⟨.int i, rfl, i, rfl, _, rfl, ?_⟩
    by_cases h0 : 0 ≤ i
    · rw [decide_eq_true h0] at q ⊢
      exact iteT ⟨.int i, rfl, .int m, rfl, i, m, rfl, rfl, q⟩
    · rw [decide_eq_false h0] at q ⊢
      exact iteF q
end
theorem dpBoolsI {K : PySem.W.Frag} {H : Hp} : ∀ {vs : List V} {bs : List Bool}, DpAll K H vs (bs.map PyData.bool) → vs = bs.map V.bl
  | _, [], .nil => rfl
  | _, _ :: _, .cons a b => by
    cases a
    rw [dpBoolsI b]; rfl
section
variable {P : Program} {w : World} {K : PySem.W.Frag} {mg : Str → Option Value} {base : Heap}
/-- sizes or reads -/
def Lds (ns : List Int) : Prop := ∀ x, x ∈ ns → 0 ≤ x ∧ x ≤ 1000000000
def sp_are_loads (K : PySem.W.Frag) : Sp := fun vs H Q _ => ∃ (a : Addr) (ns : List Int) (lo hi : Int), vs = [.ref a, .int lo, .int hi] ∧ SqT K H a (ns.map V.int) ∧ Lds ns ∧ lo ≤ (ns.length : Int) ∧ (ns.length : Int) ≤ hi ∧ ns.length ≤ 1000 ∧ ∀ H', Same H H' → Q (.bl true) H'
theorem ok_are_loads (TX : Tx K mg) : FnOk P w K mg base CX0 4 TX.a_are_loads TX.fd_are_loads ["value", "fewest", "most"] (sp_are_loads K) := by
  refine TX.f_are_loads.ok sc_are_loads (fun vs H Q E h => ?_) (fun cdv A outer s H vs Q E hr h => ?_)
  · obtain ⟨a, ns, lo, hi, rfl, _⟩ := h; rfl
  · obtain ⟨a, ns, lo, hi, rfl, hS, hL, h1, h2, h3, q⟩ := h
    have hlen : ((ns.map V.int).length : Int) = (ns.length : Int) := by rw [List.length_map]
    refine ⟨_, (pss_cons (ps_if (PW.pt (pw_or (pt_not (pt_val (pe_callB (id := "isinstance") (k_isi (K := K) rfl) (by rfl) TX.b_isinstance (by decide +kernel) (pa_cons (pv 0) (pa_cons (pe_bltn (v := .ty "tuple") (by rfl) TX.b_tuple (by decide +kernel) rfl) pa_nil))))) (pw_or1 (pt_not (pt_chain op_le op_le (pv 1) (pe_callB (id := "len") (k_len (K := K) rfl) (by rfl) TX.b_len (by decide +kernel) (pa_cons (pv 0) pa_nil)) (pv 2))))))
        (pss_one (ps_ret pe_bl))
        pss_nil)
      (pss_one (ps_ret (pe_callB (id := "all") (cr_all rfl) (by rfl) TX.b_all (by decide +kernel) (pa_cons (pe_lc (own := [("load", 3)]) (by rfl) sc_are_loads.nd (k_piT (K := K) rfl (pv 0)) (blkOk_by (own := [("load", 3)]) (N := N_are_loads) (sc := defScope s_are_loads) (by decide +kernel)) (fun _ _ _ _ _ => (pg_name (i := 3) sc_are_loads.nd rfl (Or.inl rfl))) (fun _ _ _ _ _ => pts_nil) (fun _ _ _ _ _ => (pe_call (ok_is_count_up_to TX) (hr.mono (by decide)) (by rfl) TX.g_is_count_up_to TX.f_is_count_up_to.kp TX.bd_is_count_up_to .nil pass0 (pa_cons (pv 3) (pa_cons (pe_glob (v := .int (1000000000)) (by rfl) TX.c_MOST_LOAD ⟨_, rfl⟩) pa_nil))))) pa_nil))))), ?_⟩
    refine ⟨.ref a, rfl, .ref a, .ty "tuple", .type "tuple", .type "tuple", true, rfl, .ty _, ty_tup hS, kit_ty (by decide +kernel), true, rfl, iteF ⟨_, rfl, .ref a, rfl, a, _, rfl, .inr hS, _, _, rfl, rfl, _, rfl, ?_⟩⟩
    refine decT (by rw [hlen]; exact h1) ⟨_, rfl, _, _, rfl, rfl, _, rfl, iteB0 (by rw [hlen, decide_eq_true h2]; rfl) ?_⟩
    refine ⟨.ref a, rfl, a, rfl, ⟨_, hS⟩, fun D nD => ?_⟩
    refine lc_all (K := K) (walk_tup (xs := ns.map V.int)) ((List.replicate ns.length true).map PyData.bool) (by rw [List.length_map, List.length_replicate, List.length_map]) (fun d h => by obtain ⟨b, _, rfl⟩ := List.mem_map.mp h; exact .bl b) (by rw [List.length_map]; exact h3) nD (fun H' s' => Same.tup s' hS) ?_ ?_ (fun x σ' H' Q Q' h => h _ _) (fun σ' H' Q Q' h => h _ _)
    · rintro i x Hx Hx' hi sx ⟨rfl, hx⟩ d hd R hR
      rw [List.getElem?_map, Option.map_eq_some_iff] at hx
      obtain ⟨z, hz, rfl⟩ := hx
      have hz2 := hL z (List.mem_of_getElem? hz)
      refine ⟨rfl, rfl, _, rfl, z, 1000000000, rfl, hR _ _ (Same.refl _) ?_⟩
      rw [decide_eq_true hz2.1, decide_eq_true hz2.2]
      rw [List.getElem?_map, List.getElem?_replicate, if_pos (by rw [List.length_map] at hi; exact hi)] at hd
      cases hd
      exact .bl true
    · intro H2 acc s2 ha hA
      rw [dpBoolsI hA] at ha
      refine ⟨D, List.replicate ns.length true, rfl, .inl (.inl ha), ?_⟩
      have e : (List.replicate ns.length true).all id = true := by simp
      rw [e]
      exact q _ s2
def sp_check_sizes (K : PySem.W.Frag) : Sp := fun vs H Q _ => ∃ (a : Addr) (ns : List Int) (lo hi : Int), vs = [.ref a, .int lo, .int hi] ∧ SqT K H a (ns.map V.int) ∧ Lds ns ∧ lo ≤ (ns.length : Int) ∧ (ns.length : Int) ≤ hi ∧ ns.length ≤ 1000 ∧ ∀ H', Same H H' → Q .non H'
theorem ok_check_sizes (TX : Tx K mg) : FnOk P w K mg base CX0 5 TX.a_check_sizes TX.fd_check_sizes ["sizes", "fewest", "most"] (sp_check_sizes K) := by
  refine TX.f_check_sizes.ok sc_check_sizes (fun vs H Q E h => ?_) (fun cdv A outer s H vs Q E hr h => ?_)
  · obtain ⟨a, ns, lo, hi, rfl, _⟩ := h; rfl
  · obtain ⟨a, ns, lo, hi, rfl, hS, hL, h1, h2, h3, q⟩ := h
    refine ⟨_, (pss_one (ps_if (pt_not (pt_val (pe_call (ok_are_loads TX) (hr.mono (by decide)) (by rfl) TX.g_are_loads TX.f_are_loads.kp TX.bd_are_loads .nil pass0 (pa_cons (pv 0) (pa_cons (pv 1) (pa_cons (pv 2) pa_nil))))))
        (pss_one ps_never)
        pss_nil)), ?_⟩
    exact ⟨.ref a, rfl, .int lo, rfl, .int hi, rfl, a, ns, lo, hi, rfl, hS, hL, h1, h2, h3, fun H' s' => ⟨true, rfl, iteF (q H' s')⟩⟩
def sp_check_reads (K : PySem.W.Frag) : Sp := fun vs H Q _ => ∃ (a : Addr) (ns : List Int), vs = [.ref a, .int (ns.length : Int)] ∧ SqT K H a (ns.map V.int) ∧ Lds ns ∧ ns.length ≤ 1000 ∧ ∀ H', Same H H' → Q .non H'
theorem ok_check_reads (TX : Tx K mg) : FnOk P w K mg base CX0 5 TX.a_check_reads TX.fd_check_reads ["reads", "flushes"] (sp_check_reads K) := by
  refine TX.f_check_reads.ok sc_check_reads (fun vs H Q E h => ?_) (fun cdv A outer s H vs Q E hr h => ?_)
  · obtain ⟨a, ns, rfl, _⟩ := h; rfl
  · obtain ⟨a, ns, rfl, hS, hL, h3, q⟩ := h
    refine ⟨_, (pss_one (ps_if (pt_not (pt_val (pe_call (ok_are_loads TX) (hr.mono (by decide)) (by rfl) TX.g_are_loads TX.f_are_loads.kp TX.bd_are_loads .nil pass0 (pa_cons (pv 0) (pa_cons (pv 1) (pa_cons (pv 1) pa_nil))))))
        (pss_one ps_never)
        pss_nil)), ?_⟩
    exact ⟨.ref a, rfl, .int _, rfl, .int _, rfl, a, ns, _, _, rfl, hS, hL, Int.le_refl _, Int.le_refl _, h3, fun H' s' => ⟨true, rfl, iteF (q H' s')⟩⟩
def sp_check_loads (K : PySem.W.Frag) : Sp := fun vs H Q _ => ∃ (a b : Addr) (ss rs : List Int) (m : Int), vs = [.ref a, .ref b, .int m] ∧ SqT K H a (ss.map V.int) ∧ SqT K H b (rs.map V.int) ∧ Lds ss ∧ Lds rs ∧ ss.length = rs.length ∧ (ss.length : Int) ≤ m ∧ ss.length ≤ 1000 ∧ ∀ H', Same H H' → Q .non H'
theorem ok_check_loads (TX : Tx K mg) : FnOk P w K mg base CX0 6 TX.a_check_loads TX.fd_check_loads ["sizes", "reads", "most"] (sp_check_loads K) := by
  refine TX.f_check_loads.ok sc_check_loads (fun vs H Q E h => ?_) (fun cdv A outer s H vs Q E hr h => ?_)
  · obtain ⟨a, b, ss, rs, m, rfl, _⟩ := h; rfl
  · obtain ⟨a, b, ss, rs, m, rfl, hA, hB, hs, hr', he, h1, h3, q⟩ := h
    refine ⟨_, (pss_cons (ps_expr (pe_call (ok_check_sizes TX) (hr.mono (by decide)) (by rfl) TX.g_check_sizes TX.f_check_sizes.kp TX.bd_check_sizes .nil pass0 (pa_cons (pv 0) (pa_cons pe_int (pa_cons (pv 2) pa_nil)))))
      (pss_one (ps_expr (pe_call (ok_check_reads TX) (hr.mono (by decide)) (by rfl) TX.g_check_reads TX.f_check_reads.kp TX.bd_check_reads .nil pass0 (pa_cons (pv 1) (pa_cons (pe_callB (id := "len") (k_len (K := K) rfl) (by rfl) TX.b_len (by decide +kernel) (pa_cons (pv 0) pa_nil)) pa_nil)))))), ?_⟩
    refine ⟨.ref a, rfl, .int m, rfl, a, ss, 0, m, rfl, hA, hs, by omega, h1, h3, fun H1 s1 => ?_⟩
    refine ⟨.ref b, rfl, .ref a, rfl, a, _, rfl, .inr (Same.tup s1 hA), b, rs, ?_, Same.tup s1 hB, hr', by omega, fun H2 s2 => q _ (s1.trans s2)⟩
    rw [List.length_map, he]; rfl
end
/-- the sums of the first ones, as values -/
def sms (ns : List Int) : List V := (List.range (ns.length + 1)).map fun k => V.int (sm ns k)
theorem sms_len (ns : List Int) : (sms ns).length = ns.length + 1 := by simp [sms]
theorem sms_at {ns : List Int} {k : Nat} (h : k ≤ ns.length) : (sms ns)[k]? = some (.int (sm ns k)) := by
  unfold sms
  rw [List.getElem?_map, List.getElem?_range (by omega)]; rfl
def Sms (K : PySem.W.Frag) (H : Hp) (v : V) (ss rs : List Int) : Prop := ∃ a b c, v = .ref a ∧ SqT K H a [.ref b, .ref c] ∧ SqL K H b (sms ss) ∧ SqL K H c (sms rs)
theorem Sms.same {K : PySem.W.Frag} {H H' : Hp} {v : V} {ss rs : List Int} (h : Sms K H v ss rs) (e : Same H H') : Sms K H' v ss rs := by
  obtain ⟨a, b, c, h1, h2, h3, h4⟩ := h
  exact ⟨a, b, c, h1, Same.tup e h2, e.seq h3, e.seq h4⟩
theorem SqQ.same {K : PySem.W.Frag} {H H' : Hp} {a : Addr} {xs : List V} (h : SqQ K H a xs) (e : Same H H') : SqQ K H' a xs := by
  rcases h with h | h
  · exact .inl (e.seq h)
  · exact .inr (Same.tup e h)
/-- v[i][k] is x -/
def Rd (K : PySem.W.Frag) (H : Hp) (v : V) (i k : Nat) (x : Int) : Prop := ∃ a xs b ys, v = .ref a ∧ SqQ K H a xs ∧ xs[i]? = some (.ref b) ∧ SqQ K H b ys ∧ ys[k]? = some (.int x)
theorem Rd.same {K : PySem.W.Frag} {H H' : Hp} {v : V} {i k : Nat} {x : Int} (h : Rd K H v i k x) (e : Same H H') : Rd K H' v i k x := by
  obtain ⟨a, xs, b, ys, h1, h2, h3, h4, h5⟩ := h
  exact ⟨a, xs, b, ys, h1, h2.same e, h3, h4.same e, h5⟩
def wbr (S R : Nat → Int) (i m : Nat) : List (Int × Int) := (List.range m).map fun k => (lw S R i k + lw S R (i + k + 1) (m - 1 - k) + cst S R i m k, ((i + k : Nat) : Int))
theorem wbr_via (S R : Nat → Int) (i m : Nat) : wbr S R i (m + 1) = (via S R i m 0, ((i : Nat) : Int)) :: (List.range m).map fun j => (via S R i m (j + 1), ((i + (j + 1) : Nat) : Int)) := by
  unfold wbr
  rw [List.range_succ_eq_map, List.map_cons, List.map_map]
  rfl
theorem wbr_min (S R : Nat → Int) (i m : Nat) : PySem.W.minOf (via S R i m 0, ((i : Nat) : Int)) ((List.range m).map fun j => (via S R i m (j + 1), ((i + (j + 1) : Nat) : Int))) = (lw S R i (m + 1), ((i + rt S R i m : Nat) : Int)) := by
  rw [minOf_amin, lw_succ]; rfl
section
variable {P : Program} {w : World} {K : PySem.W.Frag} {mg : Str → Option Value} {base : Heap}
def sp_running_sums (K : PySem.W.Frag) : Sp := fun vs H Q _ => ∃ (a : Addr) (ns : List Int), vs = [.ref a] ∧ SqT K H a (ns.map V.int) ∧ ns.length ≤ 1000 ∧ ∀ H' p, Same H H' → H p = none → H' p = some (.lst (sms ns)) → Q (.ref p) H'
theorem ok_running_sums (TX : Tx K mg) : FnOk P w K mg base CX0 1 TX.a_running_sums TX.fd_running_sums ["loads"] (sp_running_sums K) := by
  refine TX.f_running_sums.ok sc_running_sums (fun vs H Q E h => ?_) (fun cdv A outer s H vs Q E hr h => ?_)
  · obtain ⟨a, ns, rfl, _⟩ := h; rfl
  · obtain ⟨a, ns, rfl, hS, h3, q⟩ := h
    refine ⟨_, (pss_cons (ps_set (i := 1) sc_running_sums.nd rfl (.inl rfl) (pe_lst (pa_cons pe_int pa_nil)))
      (pss_cons (ps_for PassesOwn.never rfl (k_piT (K := K) rfl (pv 0)) (pg_name (i := 2) sc_running_sums.nd rfl (.inl rfl))
        (pss_one (ps_expr (pe_bm PySem.F.plainAttrs_list PySem.F.slot_list_append PySem.F.type_list_append mt_append (pv 1) (pa_cons (pe_op op_add (pe_ix (k_ixL (K := K) rfl) (pv 1) (pe_un un_neg pe_int) (fun _ _ => rfl)) (pv 2)) pa_nil)))))
      (pss_one (ps_ret (pv 1))))), ?_⟩
    refine ⟨sz60 (by simp), fun l nl => ?_⟩
    have s1 := same_upd (o := .lst [V.int 0]) nl
    refine ⟨.ref a, rfl, a, rfl, ⟨_, Same.tup s1 hS⟩, for_tup (K := K) (xs := ns.map V.int) (fun i σ H' => ∃ y2, σ = [some (.ref a), some (.ref l), y2] ∧ Same H H' ∧ H' l = some (.lst ((List.range (i + 1)).map fun k => V.int (sm ns k)))) ⟨none, rfl, s1, by rw [upd_same]; simp [sm_zero]⟩ (fun i σ H' _ ⟨_, _, h, _⟩ => Same.tup h hS) ?_ ?_⟩
    · rintro i x σ H2 hx ⟨y2, rfl, s2, h2⟩
      rw [List.getElem?_map, Option.map_eq_some_iff] at hx
      obtain ⟨z, hz, rfl⟩ := hx
      have hi : i < ns.length := (List.getElem?_eq_some_iff.mp hz).1
      have e1 : ((List.range (i + 1)).map fun k => V.int (sm ns k)) = ((List.range i).map fun k => V.int (sm ns k)) ++ [V.int (sm ns i)] := by rw [List.range_succ, List.map_append]; rfl
      refine ⟨.ref l, rfl, .inl ⟨rfl, _, .inl (.inl h2)⟩, .ref l, rfl, _, rfl, l, _, -1, _, rfl, rfl, .inl (.inl h2), (by rw [e1]; exact atI_last _ _), _, rfl, _, _, rfl, rfl, l, _, _, rfl, rfl, h2, sz61 (by simp; omega), ?_⟩
      refine ⟨_, rfl, Same.mut s2 nl, ?_⟩
      rw [upd_same, List.range_succ (n := i + 1), List.map_append]
      show _ = some (HO.lst (_ ++ [V.int (sm ns (i + 1))]))
      rw [sm_succ hz]
    · rintro σ H2 ⟨y2, rfl, s2, h2⟩
      rw [List.length_map] at h2
      exact ⟨_, rfl, q _ l s2 nl h2⟩
def sp_load_sums (K : PySem.W.Frag) : Sp := fun vs H Q _ => ∃ (a b : Addr) (ss rs : List Int), vs = [.ref a, .ref b] ∧ SqT K H a (ss.map V.int) ∧ SqT K H b (rs.map V.int) ∧ ss.length ≤ 1000 ∧ rs.length ≤ 1000 ∧ ∀ H' p, Same H H' → Sms K H' (.ref p) ss rs → Q (.ref p) H'
theorem ok_load_sums (TX : Tx K mg) : FnOk P w K mg base CX0 2 TX.a_load_sums TX.fd_load_sums ["sizes", "reads"] (sp_load_sums K) := by
  refine TX.f_load_sums.ok sc_load_sums (fun vs H Q E h => ?_) (fun cdv A outer s H vs Q E hr h => ?_)
  · obtain ⟨a, b, ss, rs, rfl, _⟩ := h; rfl
  · obtain ⟨a, b, ss, rs, rfl, hA, hB, h1, h2, q⟩ := h
    refine ⟨_, (pss_one (ps_ret (pe_tup (pa_cons (pe_call (ok_running_sums TX) (hr.mono (by decide)) (by rfl) TX.g_running_sums TX.f_running_sums.kp TX.bd_running_sums .nil pass0 (pa_cons (pv 0) pa_nil)) (pa_cons (pe_call (ok_running_sums TX) (hr.mono (by decide)) (by rfl) TX.g_running_sums TX.f_running_sums.kp TX.bd_running_sums .nil pass0 (pa_cons (pv 1) pa_nil)) pa_nil))))), ?_⟩
    refine ⟨.ref a, rfl, a, ss, rfl, hA, h1, fun H1 p1 s1 n1 hp1 => ⟨.ref b, rfl, b, rs, rfl, Same.tup s1 hB, h2, fun H2 p2 s2 n2 hp2 => ⟨sz60 (by simp), fun p np => ?_⟩⟩⟩
    have s3 := same_upd (o := .tup [V.ref p1, V.ref p2]) np
    exact q _ p ((s1.trans s2).trans s3) ⟨p, p1, p2, rfl, .inl (.inl upd_same), .inl (.inl (s3 _ _ (s2 _ _ hp1))), .inl (.inl (s3 _ _ hp2))⟩
def sp_root_cost (K : PySem.W.Frag) : Sp := fun vs H Q _ => ∃ (v : V) (ss rs : List Int) (i m k : Nat), vs = [v, .int (i : Int), .int ((i + m : Nat) : Int), .int ((i + k : Nat) : Int)] ∧ Sms K H v ss rs ∧ i + m ≤ ss.length ∧ i + m ≤ rs.length ∧ k < m ∧ Q (.int (cst (sm ss) (sm rs) i m k)) H
theorem ok_root_cost (TX : Tx K mg) : FnOk P w K mg base CX0 1 TX.a_root_cost TX.fd_root_cost ["sums", "start", "stop", "root"] (sp_root_cost K) := by
  refine TX.f_root_cost.ok sc_root_cost (fun vs H Q E h => ?_) (fun cdv A outer s H vs Q E hr h => ?_)
  · obtain ⟨v, ss, rs, i, m, k, rfl, _⟩ := h; rfl
  · obtain ⟨v, ss, rs, i, m, k, rfl, ⟨a, b, c, rfl, hA, hB, hC⟩, h1, h2, h3, q⟩ := h
    refine ⟨_, (pss_cons (ps_asg (pv 0) (pg_tup rfl (pgs_cons (pg_name (i := 4) sc_root_cost.nd rfl (.inl rfl)) (pgs_cons (pg_name (i := 5) sc_root_cost.nd rfl (.inl rfl)) pgs_nil))))
      (pss_one (ps_ret (pe_op op_sub (pe_op op_add (pe_op op_sub (pe_ix (k_ixL (K := K) rfl) (pv 4) (pe_op op_add (pv 3) pe_int) (fun _ _ => rfl)) (pe_ix (k_ixL (K := K) rfl) (pv 4) (pv 1) (fun _ _ => rfl))) (pe_ix (k_ixL (K := K) rfl) (pv 5) (pv 2) (fun _ _ => rfl))) (pe_ix (k_ixL (K := K) rfl) (pv 5) (pv 3) (fun _ _ => rfl)))))), ?_⟩
    have e1 : ((i + k : Nat) : Int) + 1 = ((i + k + 1 : Nat) : Int) := by omega
    refine ⟨.ref a, rfl, a, _, rfl, hA, rfl, _, _, rfl, _, [], rfl, rfl, ?_⟩
    refine ⟨.ref b, rfl, _, rfl, _, _, rfl, rfl, b, _, _, _, rfl, rfl, hB, (by rw [e1]; exact atI_nat (sms_at (by omega))), .ref b, rfl, _, rfl, b, _, _, _, rfl, rfl, hB, atI_nat (sms_at (by omega)), _, _, rfl, rfl, ?_⟩
    refine ⟨.ref c, rfl, _, rfl, c, _, _, _, rfl, rfl, hC, atI_nat (sms_at (by omega)), _, _, rfl, rfl, .ref c, rfl, _, rfl, c, _, _, _, rfl, rfl, hC, atI_nat (sms_at (by omega)), _, _, rfl, rfl, q⟩
end
section
variable {P : Program} {w : World} {K : PySem.W.Frag} {mg : Str → Option Value} {base : Heap}
theorem tf_dP (p : Int × Int) : Tf (dP p) := .tup fun d h => by
  rcases List.mem_cons.mp h with rfl | h
  · exact .int _
  · rcases List.mem_cons.mp h with rfl | h
    · exact .int _
    · cases h
theorem dp_dP {K : PySem.W.Frag} {H : Hp} {a : Addr} {x y : Int} (h : SqT K H a [V.int x, V.int y]) : Dp K H (.ref a) (dP (x, y)) := .tup h (dp_ints [x, y])
/-- what the roots of the m flushes from i on ask of two tables -/
def Rds (K : PySem.W.Frag) (H : Hp) (v u : V) (S R : Nat → Int) (i m : Nat) : Prop := (∀ k, k < m → Rd K H v i k (lw S R i k)) ∧ ∀ k, k < m → Rd K H u (i + k + 1) (m - 1 - k) (lw S R (i + k + 1) (m - 1 - k))
theorem Rds.same {K : PySem.W.Frag} {H H' : Hp} {v u : V} {S R : Nat → Int} {i m : Nat} (h : Rds K H v u S R i m) (e : Same H H') : Rds K H' v u S R i m :=
  ⟨fun k hk => (h.1 k hk).same e, fun k hk => (h.2 k hk).same e⟩
def sp_works_by_root (K : PySem.W.Frag) : Sp := fun vs H Q _ => ∃ (v u z : V) (ss rs : List Int) (i m : Nat), vs = [v, u, z, .int (i : Int), .int ((i + m : Nat) : Int)] ∧ Sms K H z ss rs ∧ i + m ≤ ss.length ∧ i + m ≤ rs.length ∧ ss.length ≤ 1000 ∧ Rds K H v u (sm ss) (sm rs) i m ∧
  ∀ H' p us, Same H H' → H p = none → H' p = some (.lst us) → DpAll K H' us ((wbr (sm ss) (sm rs) i m).map dP) → Q (.ref p) H'
theorem ok_works_by_root (TX : Tx K mg) : FnOk P w K mg base CX0 2 TX.a_works_by_root TX.fd_works_by_root ["lefts", "rights", "sums", "start", "stop"] (sp_works_by_root K) := by
  refine TX.f_works_by_root.ok sc_works_by_root (fun vs H Q E h => ?_) (fun cdv A outer s H vs Q E hr h => ?_)
  · obtain ⟨v, u, z, ss, rs, i, m, rfl, _⟩ := h; rfl
  · obtain ⟨v, u, z, ss, rs, i, m, rfl, hZ, h1, h2, h3, hR, q⟩ := h
    refine ⟨_, (pss_cons (ps_set (i := 5) sc_works_by_root.nd rfl (.inl rfl) (pe_lst pa_nil))
      (pss_cons (ps_for PassesOwn.never rfl (pi_range2 (by rfl) TX.b_range (pa_cons (pv 3) (pa_cons (pv 4) pa_nil))) (pg_name (i := 6) sc_works_by_root.nd rfl (.inl rfl))
        (pss_cons (ps_set (i := 7) sc_works_by_root.nd rfl (.inl rfl) (pe_ix (k_ixQ (K := K) rfl) (pe_ix (k_ixQ (K := K) rfl) (pv 0) (pv 3) (fun _ _ => rfl)) (pe_op op_sub (pv 6) (pv 3)) (fun _ _ => rfl)))
        (pss_cons (ps_set (i := 8) sc_works_by_root.nd rfl (.inl rfl) (pe_ix (k_ixQ (K := K) rfl) (pe_ix (k_ixQ (K := K) rfl) (pv 1) (pe_op op_add (pv 6) pe_int) (fun _ _ => rfl)) (pe_op op_sub (pe_op op_sub (pv 4) (pv 6)) pe_int) (fun _ _ => rfl)))
        (pss_one (ps_if (PW.pt (pw_and (pt_cmpR op_notN (pv 7) pe_non (nomark _)) (pw_and1 (pt_cmpR op_notN (pv 8) pe_non (nomark _)))))
          (pss_one (ps_expr (pe_bm PySem.F.plainAttrs_list PySem.F.slot_list_append PySem.F.type_list_append mt_append (pv 5) (pa_cons (pe_tup (pa_cons (pe_op op_add (pe_op op_add (pv 7) (pv 8)) (pe_call (ok_root_cost TX) (hr.mono (by decide)) (by rfl) TX.g_root_cost TX.f_root_cost.kp TX.bd_root_cost .nil pass0 (pa_cons (pv 2) (pa_cons (pv 3) (pa_cons (pv 4) (pa_cons (pv 6) pa_nil)))))) (pa_cons (pv 6) pa_nil))) pa_nil))))
          pss_nil)))))
      (pss_one (ps_ret (pv 5))))), ?_⟩
    refine ⟨sz60 (by simp), fun l nl => ?_⟩
    have s1 := same_upd (o := .lst []) nl
    have en : ((((i + m : Nat) : Int)) - ((i : Nat) : Int)).toNat = m := by omega
    refine ⟨_, rfl, _, rfl, _, _, rfl, ⟨by omega, by omega, by omega, by omega⟩, ?_⟩
    refine for_range (lo := ((i : Nat) : Int)) (fun j σ H' => ∃ y6 y7 y8 us, σ = [some v, some u, some z, some (.int (i : Int)), some (.int ((i + m : Nat) : Int)), some (.ref l), y6, y7, y8] ∧ Same H H' ∧ H' l = some (.lst us) ∧ DpAll K H' us (((wbr (sm ss) (sm rs) i m).take j).map dP)) ⟨none, none, none, [], rfl, s1, upd_same, .nil⟩ ?_ ?_
    · rintro j σ H2 hj ⟨y6, y7, y8, us, rfl, s2, hl, hA⟩
      rw [en] at hj
      obtain ⟨a, xs, b, ys, rfl, g1, g2, g3, g4⟩ := (hR.1 j hj).same s2
      obtain ⟨a', xs', b', ys', rfl, k1, k2, k3, k4⟩ := (hR.2 j hj).same s2
      have e1 : ((i : Nat) : Int) + ((j : Nat) : Int) = ((i + j : Nat) : Int) := by omega
      have e2 : ((i + j : Nat) : Int) - ((i : Nat) : Int) = ((j : Nat) : Int) := by omega
      have e3 : ((i + j : Nat) : Int) + 1 = ((i + j + 1 : Nat) : Int) := by omega
      have e4 : ((i + m : Nat) : Int) - ((i + j : Nat) : Int) - 1 = ((m - 1 - j : Nat) : Int) := by omega
      rw [e1]
      refine ⟨_, rfl, _, rfl, a, xs, _, _, rfl, rfl, g1, atI_nat g2, _, rfl, _, rfl, _, _, rfl, rfl, b, ys, _, _, rfl, rfl, g3, (by rw [e2]; exact atI_nat g4), ?_⟩
      refine ⟨_, rfl, _, rfl, _, _, rfl, rfl, a', xs', _, _, rfl, rfl, k1, (by rw [e3]; exact atI_nat k2), _, rfl, _, rfl, _, _, rfl, rfl, _, _, rfl, rfl, b', ys', _, _, rfl, rfl, k3, (by rw [e4]; exact atI_nat k4), ?_⟩
      refine ⟨_, rfl, rfl, _, rfl, iteB1 (by simp) ⟨_, rfl, rfl, _, rfl, iteB1 (by simp) ?_⟩⟩
      refine ⟨.ref l, rfl, .inl ⟨rfl, _, .inl (.inl hl)⟩, _, rfl, _, rfl, _, _, rfl, rfl, z, rfl, _, rfl, _, rfl, _, rfl, z, ss, rs, i, m, j, rfl, hZ.same s2, h1, h2, hj, _, _, rfl, rfl, _, rfl, sz60 (by simp), fun p np => ?_⟩
      have s3 := same_upd (o := .tup [V.int (lw (sm ss) (sm rs) i j + lw (sm ss) (sm rs) (i + j + 1) (m - 1 - j) + cst (sm ss) (sm rs) i m j), V.int ((i + j : Nat) : Int)]) np
      have hul := DpAll.len hA
      have hwl : (wbr (sm ss) (sm rs) i m).length = m := by simp [wbr]
      rw [List.length_map, List.length_take, hwl] at hul
      have hl3 := s3 _ _ hl
      refine ⟨l, us, _, rfl, rfl, hl3, sz61 (by omega), ?_⟩
      refine ⟨_, _, _, us ++ [V.ref p], rfl, Same.mut (s2.trans s3) nl, upd_same, ?_⟩
      have hg : (wbr (sm ss) (sm rs) i m)[j]? = some (lw (sm ss) (sm rs) i j + lw (sm ss) (sm rs) (i + j + 1) (m - 1 - j) + cst (sm ss) (sm rs) i m j, ((i + j : Nat) : Int)) := by
        unfold wbr
        rw [List.getElem?_map, List.getElem?_range hj]; rfl
      rw [List.take_add_one, hg, List.map_append]
      refine DpAll.keep (But.keep But.upd hl3) (fun d hd => ?_) (DpAll.append (DpAll.same s3 hA) (.cons ?_ .nil))
      · rcases List.mem_append.mp hd with hd | hd
        · obtain ⟨p, _, rfl⟩ := List.mem_map.mp hd
          exact tf_dP p
        · obtain ⟨p, _, rfl⟩ := List.mem_map.mp hd
          exact tf_dP p
      · exact dp_dP (.inl (.inl upd_same))
    · rintro σ H2 ⟨y6, y7, y8, us, rfl, s2, hl, hA⟩
      rw [en, List.take_of_length_le (by simp [wbr])] at hA
      exact ⟨_, rfl, q _ l us s2 nl hl hA⟩
end
/-- the first m works of the row of i -/
def rowc (S R : Nat → Int) (i m : Nat) : List Int := (List.range m).map fun j => lw S R i j
theorem rowc_len (S R : Nat → Int) (i m : Nat) : (rowc S R i m).length = m := by simp [rowc]
theorem rowc_at {S R : Nat → Int} {i m k : Nat} (h : k < m) : (rowc S R i m)[k]? = some (lw S R i k) := by
  unfold rowc
  rw [List.getElem?_map, List.getElem?_range h]; rfl
theorem rowc_succ (S R : Nat → Int) (i m : Nat) : rowc S R i (m + 1) = rowc S R i m ++ [lw S R i m] := by
  unfold rowc
  rw [List.range_succ, List.map_append]; rfl
/-- the rows of least works of n flushes -/
def dRow (S R : Nat → Int) (i m : Nat) : PyData := .tuple ((rowc S R i m).map PyData.int)
def dRows (S R : Nat → Int) (n : Nat) : List PyData := (List.range (n + 1)).map fun i => dRow S R i (n + 1 - i)
theorem dRows_len (S R : Nat → Int) (n : Nat) : (dRows S R n).length = n + 1 := by simp [dRows]
theorem dRows_at {S R : Nat → Int} {n i : Nat} (h : i ≤ n) : (dRows S R n)[i]? = some (dRow S R i (n + 1 - i)) := by
  unfold dRows
  rw [List.getElem?_map, List.getElem?_range (by omega)]; rfl
theorem tf_row (S R : Nat → Int) (i m : Nat) : Tf (dRow S R i m) := .tup (tf_ints _)
/-- the lists that become the rows: of row i, f i works are there -/
def RowsAt (H : Hp) (A : Addr) (as : List Addr) (S R : Nat → Int) (n : Nat) (f : Nat → Nat) : Prop :=
  H A = some (.lst (as.map V.ref)) ∧ as.length = n + 1 ∧ as.Nodup ∧ (∀ a, a ∈ as → a ≠ A) ∧ ∀ i a, as[i]? = some a → H a = some (.lst ((rowc S R i (f i)).map V.int))
theorem RowsAt.same {H H' : Hp} {A : Addr} {as : List Addr} {S R : Nat → Int} {n : Nat} {f : Nat → Nat} (h : RowsAt H A as S R n f) (e : Same H H') : RowsAt H' A as S R n f :=
  ⟨e _ _ h.1, h.2.1, h.2.2.1, h.2.2.2.1, fun i a ha => e _ _ (h.2.2.2.2 i a ha)⟩
theorem RowsAt.rd {K : PySem.W.Frag} {H : Hp} {A : Addr} {as : List Addr} {S R : Nat → Int} {n : Nat} {f : Nat → Nat} (h : RowsAt H A as S R n f) {i k : Nat} (hi : i ≤ n) (hk : k < f i) : Rd K H (.ref A) i k (lw S R i k) := by
  have hi' : i < as.length := by rw [h.2.1]; omega
  have ha := List.getElem?_eq_getElem hi'
  refine ⟨A, _, as[i], _, rfl, .inl (.inl (.inl h.1)), ?_, .inl (.inl (.inl (h.2.2.2.2 i _ ha))), ?_⟩
  · rw [List.getElem?_map, ha]; rfl
  · rw [List.getElem?_map, rowc_at hk]; rfl
theorem RowsAt.congr {H : Hp} {A : Addr} {as : List Addr} {S R : Nat → Int} {n : Nat} {f g : Nat → Nat} (h : RowsAt H A as S R n f) (e : ∀ i, i ≤ n → f i = g i) : RowsAt H A as S R n g :=
  ⟨h.1, h.2.1, h.2.2.1, h.2.2.2.1, fun i a ha => by
    have hi : i < as.length := (List.getElem?_eq_some_iff.mp ha).1
    rw [← e i (by rw [h.2.1] at hi; omega)]
    exact h.2.2.2.2 i a ha⟩
theorem RowsAt.push {H : Hp} {A : Addr} {as : List Addr} {S R : Nat → Int} {n : Nat} {f : Nat → Nat} (h : RowsAt H A as S R n f) {i : Nat} {a : Addr} (ha : as[i]? = some a) :
    RowsAt (upd H a (.lst ((rowc S R i (f i)).map V.int ++ [V.int (lw S R i (f i))]))) A as S R n (fun j => if j = i then f i + 1 else f j) := by
  obtain ⟨h1, h2, h3, h4, h5⟩ := h
  have hm : a ∈ as := List.mem_of_getElem? ha
  refine ⟨by rw [upd_ne (h4 a hm).symm]; exact h1, h2, h3, h4, fun j b hb => ?_⟩
  by_cases e : j = i
  · subst e
    rw [ha] at hb
    cases hb
    rw [upd_same]
    dsimp only
    rw [if_pos rfl, rowc_succ, List.map_append]; rfl
  · dsimp only
    rw [if_neg e, upd_ne]
    · exact h5 j b hb
    · intro eb
      subst eb
      exact e ((List.getElem?_inj (List.getElem?_eq_some_iff.mp hb).1 h3).mp (hb.trans ha.symm))
section
variable {P : Program} {w : World} {K : PySem.W.Frag} {mg : Str → Option Value} {base : Heap}
end
/-- a table of whole numbers of n flushes -/
def rowB (B : Nat → Nat → Int) (n i : Nat) : List Int := (List.range (n + 1 - i)).map (B i)
def dTab (B : Nat → Nat → Int) (n : Nat) : PyData := .tuple ((List.range (n + 1)).map fun i => .tuple ((rowB B n i).map PyData.int))
theorem dTab_lw (S R : Nat → Int) (n : Nat) : dTab (lw S R) n = .tuple (dRows S R n) := rfl
theorem rowB_len (B : Nat → Nat → Int) (n i : Nat) : (rowB B n i).length = n + 1 - i := by simp [rowB]
theorem rowB_at {B : Nat → Nat → Int} {n i m : Nat} (h : i + m ≤ n) : (rowB B n i)[m]? = some (B i m) := by
  unfold rowB
  rw [List.getElem?_map, List.getElem?_range (by omega)]; rfl
theorem tab_row {K : PySem.W.Frag} {H : Hp} {v : V} {B : Nat → Nat → Int} {n : Nat} (h : Dp K H v (dTab B n)) : ∃ a xs, v = .ref a ∧ SqT K H a xs ∧ xs.length = n + 1 ∧ ∀ i, i ≤ n → ∃ b, xs[i]? = some (.ref b) ∧ SqT K H b ((rowB B n i).map V.int) := by
  obtain ⟨a, xs, rfl, hS, hA⟩ := Dp.tupInv h
  refine ⟨a, xs, rfl, hS, by rw [DpAll.len hA]; simp, fun i hi => ?_⟩
  obtain ⟨x, hx, hD⟩ := DpAll.get hA (i := i) (d := .tuple ((rowB B n i).map PyData.int)) (by rw [List.getElem?_map, List.getElem?_range (by omega)]; rfl)
  obtain ⟨b, rfl, hB⟩ := Dp.intsInv hD
  exact ⟨b, hx, hB⟩
theorem tab_rd {K : PySem.W.Frag} {H : Hp} {v : V} {B : Nat → Nat → Int} {n : Nat} (h : Dp K H v (dTab B n)) {i m : Nat} (hi : i + m ≤ n) : Rd K H v i m (B i m) := by
  obtain ⟨a, xs, rfl, hS, _, hr⟩ := tab_row h
  obtain ⟨b, hb, hB⟩ := hr i (by omega)
  refine ⟨a, xs, b, _, rfl, .inr hS, hb, .inr hB, ?_⟩
  rw [List.getElem?_map, rowB_at hi]; rfl
/-- an int or None -/
def ov : Option Int → V
  | none => .non
  | some i => .int i
def Rdo (K : PySem.W.Frag) (H : Hp) (v : V) (i k : Nat) (x : Option Int) : Prop := ∃ a xs b ys, v = .ref a ∧ SqQ K H a xs ∧ xs[i]? = some (.ref b) ∧ SqQ K H b ys ∧ ys[k]? = some (ov x)
theorem Rd.o {K : PySem.W.Frag} {H : Hp} {v : V} {i k : Nat} {x : Int} (h : Rd K H v i k x) : Rdo K H v i k (some x) := h
theorem Rdo.same {K : PySem.W.Frag} {H H' : Hp} {v : V} {i k : Nat} {x : Option Int} (h : Rdo K H v i k x) (e : Same H H') : Rdo K H' v i k x := by
  obtain ⟨a, xs, b, ys, h1, h2, h3, h4, h5⟩ := h
  exact ⟨a, xs, b, ys, h1, h2.same e, h3, h4.same e, h5⟩
def RdsO (K : PySem.W.Frag) (H : Hp) (v u : V) (l r : Nat → Option Int) (i m : Nat) : Prop := (∀ k, k < m → Rdo K H v i k (l k)) ∧ ∀ k, k < m → Rdo K H u (i + k + 1) (m - 1 - k) (r k)
theorem RdsO.same {K : PySem.W.Frag} {H H' : Hp} {v u : V} {l r : Nat → Option Int} {i m : Nat} (h : RdsO K H v u l r i m) (e : Same H H') : RdsO K H' v u l r i m :=
  ⟨fun k hk => (h.1 k hk).same e, fun k hk => (h.2 k hk).same e⟩
def wb1 (l r : Nat → Option Int) (c : Nat → Int) (i k : Nat) : Option (Int × Int) := match l k, r k with
  | some x, some y => some (x + y + c k, ((i + k : Nat) : Int))
  | _, _ => none
def wbo (l r : Nat → Option Int) (c : Nat → Int) (i m : Nat) : List (Int × Int) := (List.range m).filterMap (wb1 l r c i)
theorem wbo_succ (l r : Nat → Option Int) (c : Nat → Int) (i m : Nat) : wbo l r c i (m + 1) = wbo l r c i m ++ (wb1 l r c i m).toList := by
  unfold wbo
  rw [List.range_succ, List.filterMap_append]
  cases e : wb1 l r c i m <;> simp [e]
theorem wbo_len (l r : Nat → Option Int) (c : Nat → Int) (i m : Nat) : (wbo l r c i m).length ≤ m := by
  unfold wbo
  have := List.length_filterMap_le (wb1 l r c i) (List.range m)
  rwa [List.length_range] at this
def lowV (b : Int) (ps : List (Int × Int)) : Bool := ps.all fun p => decide (b ≤ p.1)
def ivN (n : Nat) : List (Nat × Nat) := (List.range (n + 1)).flatMap fun i => (List.range (n + 1 - i)).map fun m => (i, m)
def dIv (p : Nat × Nat) : PyData := dP ((p.1 : Int), ((p.1 + p.2 : Nat) : Int))
theorem ivN_blks (n : Nat) : (ivN n).map dIv = blks (fun i => (List.range (n + 1 - i)).map fun m => dIv (i, m)) (n + 1) := by
  unfold ivN blks
  rw [List.map_flatMap]
  simp only [List.map_map]
  rfl
theorem mem_ivN {n : Nat} {p : Nat × Nat} : p ∈ ivN n ↔ p.1 + p.2 ≤ n := by
  unfold ivN
  rw [List.mem_flatMap]
  constructor
  · rintro ⟨i, hi, h⟩
    obtain ⟨m, hm, rfl⟩ := List.mem_map.mp h
    have := List.mem_range.mp hi
    have := List.mem_range.mp hm
    show i + m ≤ n
    omega
  · intro h
    exact ⟨p.1, List.mem_range.mpr (by omega), List.mem_map.mpr ⟨p.2, List.mem_range.mpr (by omega), rfl⟩⟩
theorem blks_len_le {f : Nat → List PyData} {c : Nat} : ∀ n, (∀ i, i < n → (f i).length ≤ c) → (blks f n).length ≤ c * n
  | 0, _ => by simp [blks]
  | n + 1, h => by
    have h1 := blks_len_le n fun i hi => h i (by omega)
    have h2 := h n (by omega)
    rw [blks_succ, List.length_append, Nat.mul_add, Nat.mul_one]
    omega
theorem tf_dIv (p : Nat × Nat) : Tf (dIv p) := tf_dP _
/-- whether the bound of the m flushes from i on is low enough -/
def lowAt (S R : Nat → Int) (B : Nat → Nat → Int) (p : Nat × Nat) : Bool :=
  if p.2 = 0 then decide (B p.1 0 ≤ 0) else lowV (B p.1 p.2) (wbo (fun k => some (B p.1 k)) (fun k => some (B (p.1 + k + 1) (p.2 - 1 - k))) (cst S R p.1 p.2) p.1 p.2)
def okTab (S R : Nat → Int) (B : Nat → Nat → Int) (n : Nat) : Bool := (ivN n).all (lowAt S R B)
theorem mem_wbo {l r : Nat → Option Int} {c : Nat → Int} {i m : Nat} {p : Int × Int} : p ∈ wbo l r c i m ↔ ∃ k, k < m ∧ wb1 l r c i k = some p := by
  unfold wbo
  rw [List.mem_filterMap]
  constructor
  · rintro ⟨k, hk, h⟩; exact ⟨k, List.mem_range.mp hk, h⟩
  · rintro ⟨k, hk, h⟩; exact ⟨k, List.mem_range.mpr hk, h⟩
theorem lowAt_iff {S R : Nat → Int} {B : Nat → Nat → Int} {i m : Nat} : lowAt S R B (i, m + 1) = true ↔ ∀ k, k ≤ m → B i (m + 1) ≤ B i k + B (i + k + 1) (m - k) + cst S R i (m + 1) k := by
  unfold lowAt lowV
  rw [if_neg (by simp), List.all_eq_true]
  constructor
  · intro h k hk
    have := h (B i k + B (i + k + 1) (m - k) + cst S R i (m + 1) k, ((i + k : Nat) : Int)) (mem_wbo.mpr ⟨k, by dsimp only; omega, rfl⟩)
    simpa using this
  · intro h p hp
    obtain ⟨k, hk, e⟩ := mem_wbo.mp hp
    have e' : (B i k + B (i + k + 1) (m - k) + cst S R i (m + 1) k, ((i + k : Nat) : Int)) = p := Option.some.inj e
    rw [← e']
    exact decide_eq_true (h k (by dsimp only at hk; omega))
theorem okTab_iff {S R : Nat → Int} {B : Nat → Nat → Int} {n : Nat} : okTab S R B n = true ↔ ∀ i m, i + m ≤ n → lowAt S R B (i, m) = true := by
  unfold okTab
  rw [List.all_eq_true]
  exact ⟨fun h i m hi => h (i, m) (mem_ivN.mpr hi), fun h p hp => h p.1 p.2 (mem_ivN.mp hp)⟩
theorem lwk_ok (S R : Nat → Int) (n : Nat) : okTab S R (lw S R) n = true := by
  rw [okTab_iff]
  intro i m hi
  cases m with
  | zero =>
    unfold lowAt
    rw [if_pos rfl]
    exact decide_eq_true (by rw [lw_zero]; exact Int.le_refl _)
  | succ m =>
    rw [lowAt_iff]
    intro k hk
    have := lw_le S R i hk
    unfold via at this
    exact this
/-- no bound is above the least work -/
theorem low_le {S R : Nat → Int} {B : Nat → Nat → Int} {n : Nat} (h : okTab S R B n = true) : ∀ m i, i + m ≤ n → B i m ≤ lw S R i m := by
  rw [okTab_iff] at h
  intro m
  induction m using Nat.strongRecOn with
  | ind m ih =>
    intro i hi
    cases m with
    | zero =>
      have := h i 0 hi
      unfold lowAt at this
      rw [if_pos rfl] at this
      rw [lw_zero]
      exact of_decide_eq_true this
    | succ m =>
      have h1 := lowAt_iff.mp (h i (m + 1) hi) (rt S R i m) (rt_le _ _ _ _)
      rw [lw_succ]
      have hk := rt_le S R i m
      generalize rt S R i m = k at hk h1 ⊢
      have h2 := ih k (by omega) i (by omega)
      have h3 := ih (m - k) (by omega) (i + k + 1) (by omega)
      unfold via
      omega
/-- no int -/
def NotI (K : PySem.W.Frag) (H : Hp) (x : V) : Prop := x = .non ∨ (∃ b, x = .bl b) ∨ (∃ z, x = .str z) ∨ ∃ a xs, x = .ref a ∧ SqT K H a xs
theorem NotI.same {K : PySem.W.Frag} {H H' : Hp} {x : V} (h : NotI K H x) (e : Same H H') : NotI K H' x := by
  rcases h with h | h | h | ⟨a, xs, h, hs⟩
  · exact .inl h
  · exact .inr (.inl h)
  · exact .inr (.inr (.inl h))
  · exact .inr (.inr (.inr ⟨a, xs, h, Same.tup e hs⟩))
theorem NotI.ty {K : PySem.W.Frag} {H : Hp} {x : V} (h : NotI K H x) : ∃ T b1 b2, TyX K H x (.type T) ∧ L2.kitB T "int" = some b1 ∧ L2.kitB T "bool" = some b2 ∧ (b1 && !b2) = false := by
  rcases h with rfl | ⟨b, rfl⟩ | ⟨z, rfl⟩ | ⟨a, xs, rfl, hs⟩
  · exact ⟨"NoneType", false, false, .base .non, by decide +kernel, by decide +kernel, rfl⟩
  · exact ⟨"bool", true, true, .base (.bl b), by decide +kernel, by decide +kernel, rfl⟩
  · exact ⟨"str", false, false, .base (.str z), by decide +kernel, by decide +kernel, rfl⟩
  · exact ⟨"tuple", false, false, ty_tup hs, by decide +kernel, by decide +kernel, rfl⟩
section
variable {P : Program} {w : World} {K : PySem.W.Frag} {mg : Str → Option Value} {base : Heap}
def sp_is_intD (K : PySem.W.Frag) : Sp := fun vs H Q _ => ∃ x T b1 b2, vs = [x] ∧ TyX K H x (.type T) ∧ L2.kitB T "int" = some b1 ∧ L2.kitB T "bool" = some b2 ∧ Q (.bl (b1 && !b2)) H
theorem ok_is_intD (TX : Tx K mg) : FnOk P w K mg base CX0 1 TX.a_is_int TX.fd_is_int ["value"] (sp_is_intD K) := by
  refine TX.f_is_int.ok sc_is_int (fun vs H Q E h => ?_) (fun cdv A outer s H vs Q E hr h => ?_)
  · obtain ⟨x, T, b1, b2, rfl, _⟩ := h; rfl
  · obtain ⟨x, T, b1, b2, rfl, hT, h1, h2, q⟩ := h
    refine ⟨_, (pss_one (ps_ret (pe_and (pe_callB (id := "isinstance") (k_isi (K := K) rfl) (by rfl) TX.b_isinstance (by decide +kernel) (pa_cons (pv 0) (pa_cons (pe_bltn (v := .ty "int") (by rfl) TX.b_int (by decide +kernel) rfl) pa_nil))) (pe_one (pe_not (pe_callB (id := "isinstance") (k_isi (K := K) rfl) (by rfl) TX.b_isinstance (by decide +kernel) (pa_cons (pv 0) (pa_cons (pe_bltn (v := .ty "bool") (by rfl) TX.b_bool (by decide +kernel) rfl) pa_nil)))))))), ?_⟩
    refine ⟨x, rfl, x, .ty "int", .type T, .type "int", b1, rfl, .ty _, hT, kit_ty h1, b1, rfl, ?_⟩
    cases b1 with
    | false => exact iteF q
    | true => exact iteT ⟨x, rfl, x, .ty "bool", .type T, .type "bool", b2, rfl, .ty _, hT, kit_ty h2, b2, rfl, q⟩
def sp_works_by_rootO (K : PySem.W.Frag) : Sp := fun vs H Q _ => ∃ (v u z : V) (ss rs : List Int) (i m : Nat) (lf rg : Nat → Option Int), vs = [v, u, z, .int (i : Int), .int ((i + m : Nat) : Int)] ∧ Sms K H z ss rs ∧ i + m ≤ ss.length ∧ i + m ≤ rs.length ∧ ss.length ≤ 1000 ∧ RdsO K H v u lf rg i m ∧
  ∀ H' p us, Same H H' → H p = none → H' p = some (.lst us) → DpAll K H' us ((wbo lf rg (cst (sm ss) (sm rs) i m) i m).map dP) → Q (.ref p) H'
theorem ok_works_by_rootO (TX : Tx K mg) : FnOk P w K mg base CX0 2 TX.a_works_by_root TX.fd_works_by_root ["lefts", "rights", "sums", "start", "stop"] (sp_works_by_rootO K) := by
  refine TX.f_works_by_root.ok sc_works_by_root (fun vs H Q E h => ?_) (fun cdv A outer s H vs Q E hr h => ?_)
  · obtain ⟨v, u, z, ss, rs, i, m, lf, rg, rfl, _⟩ := h; rfl
  · obtain ⟨v, u, z, ss, rs, i, m, lf, rg, rfl, hZ, h1, h2, h3, hR, q⟩ := h
    refine ⟨_, (pss_cons (ps_set (i := 5) sc_works_by_root.nd rfl (.inl rfl) (pe_lst pa_nil))
      (pss_cons (ps_for PassesOwn.never rfl (pi_range2 (by rfl) TX.b_range (pa_cons (pv 3) (pa_cons (pv 4) pa_nil))) (pg_name (i := 6) sc_works_by_root.nd rfl (.inl rfl))
        (pss_cons (ps_set (i := 7) sc_works_by_root.nd rfl (.inl rfl) (pe_ix (k_ixQ (K := K) rfl) (pe_ix (k_ixQ (K := K) rfl) (pv 0) (pv 3) (fun _ _ => rfl)) (pe_op op_sub (pv 6) (pv 3)) (fun _ _ => rfl)))
        (pss_cons (ps_set (i := 8) sc_works_by_root.nd rfl (.inl rfl) (pe_ix (k_ixQ (K := K) rfl) (pe_ix (k_ixQ (K := K) rfl) (pv 1) (pe_op op_add (pv 6) pe_int) (fun _ _ => rfl)) (pe_op op_sub (pe_op op_sub (pv 4) (pv 6)) pe_int) (fun _ _ => rfl)))
        (pss_one (ps_if (PW.pt (pw_and (pt_cmpR op_notN (pv 7) pe_non (nomark _)) (pw_and1 (pt_cmpR op_notN (pv 8) pe_non (nomark _)))))
          (pss_one (ps_expr (pe_bm PySem.F.plainAttrs_list PySem.F.slot_list_append PySem.F.type_list_append mt_append (pv 5) (pa_cons (pe_tup (pa_cons (pe_op op_add (pe_op op_add (pv 7) (pv 8)) (pe_call (ok_root_cost TX) (hr.mono (by decide)) (by rfl) TX.g_root_cost TX.f_root_cost.kp TX.bd_root_cost .nil pass0 (pa_cons (pv 2) (pa_cons (pv 3) (pa_cons (pv 4) (pa_cons (pv 6) pa_nil)))))) (pa_cons (pv 6) pa_nil))) pa_nil))))
          pss_nil)))))
      (pss_one (ps_ret (pv 5))))), ?_⟩
    refine ⟨sz60 (by simp), fun l nl => ?_⟩
    have s1 := same_upd (o := .lst []) nl
    have en : ((((i + m : Nat) : Int)) - ((i : Nat) : Int)).toNat = m := by omega
    refine ⟨_, rfl, _, rfl, _, _, rfl, ⟨by omega, by omega, by omega, by omega⟩, ?_⟩
    refine for_range (lo := ((i : Nat) : Int)) (fun j σ H' => ∃ y6 y7 y8 us, σ = [some v, some u, some z, some (.int (i : Int)), some (.int ((i + m : Nat) : Int)), some (.ref l), y6, y7, y8] ∧ Same H H' ∧ H' l = some (.lst us) ∧ DpAll K H' us ((wbo lf rg (cst (sm ss) (sm rs) i m) i j).map dP)) ⟨none, none, none, [], rfl, s1, upd_same, .nil⟩ ?_ ?_
    · rintro j σ H2 hj ⟨y6, y7, y8, us, rfl, s2, hl, hA⟩
      rw [en] at hj
      obtain ⟨a, xs, b, ys, rfl, g1, g2, g3, g4⟩ := (hR.1 j hj).same s2
      obtain ⟨a', xs', b', ys', rfl, k1, k2, k3, k4⟩ := (hR.2 j hj).same s2
      have e1 : ((i : Nat) : Int) + ((j : Nat) : Int) = ((i + j : Nat) : Int) := by omega
      have e2 : ((i + j : Nat) : Int) - ((i : Nat) : Int) = ((j : Nat) : Int) := by omega
      have e3 : ((i + j : Nat) : Int) + 1 = ((i + j + 1 : Nat) : Int) := by omega
      have e4 : ((i + m : Nat) : Int) - ((i + j : Nat) : Int) - 1 = ((m - 1 - j : Nat) : Int) := by omega
      rw [e1]
      refine ⟨_, rfl, _, rfl, a, xs, _, _, rfl, rfl, g1, atI_nat g2, _, rfl, _, rfl, _, _, rfl, rfl, b, ys, _, _, rfl, rfl, g3, (by rw [e2]; exact atI_nat g4), ?_⟩
      refine ⟨_, rfl, _, rfl, _, _, rfl, rfl, a', xs', _, _, rfl, rfl, k1, (by rw [e3]; exact atI_nat k2), _, rfl, _, rfl, _, _, rfl, rfl, _, _, rfl, rfl, b', ys', _, _, rfl, rfl, k3, (by rw [e4]; exact atI_nat k4), ?_⟩
      have hul := DpAll.len hA
      have hwl := wbo_len lf rg (cst (sm ss) (sm rs) i m) i j
      rw [List.length_map] at hul
      have hw := wbo_succ lf rg (cst (sm ss) (sm rs) i m) i j
      cases ex : lf j with
      | none =>
        have e0 : wb1 lf rg (cst (sm ss) (sm rs) i m) i j = none := by unfold wb1; rw [ex]
        rw [e0, Option.toList_none, List.append_nil] at hw
        refine ⟨_, rfl, rfl, _, rfl, iteB0 (by simp [ov]) (iteF ?_)⟩
        exact ⟨_, _, _, us, rfl, s2, hl, by rw [hw]; exact hA⟩
      | some x =>
      cases ey : rg j with
      | none =>
        have e0 : wb1 lf rg (cst (sm ss) (sm rs) i m) i j = none := by unfold wb1; rw [ex, ey]
        rw [e0, Option.toList_none, List.append_nil] at hw
        refine ⟨_, rfl, rfl, _, rfl, iteB1 (by simp [ov]) ⟨_, rfl, rfl, _, rfl, iteB0 (by simp [ov]) ?_⟩⟩
        exact ⟨_, _, _, us, rfl, s2, hl, by rw [hw]; exact hA⟩
      | some y =>
      have e0 : wb1 lf rg (cst (sm ss) (sm rs) i m) i j = some (x + y + cst (sm ss) (sm rs) i m j, ((i + j : Nat) : Int)) := by unfold wb1; rw [ex, ey]
      rw [e0, Option.toList_some] at hw
      refine ⟨_, rfl, rfl, _, rfl, iteB1 (by simp [ov]) ⟨_, rfl, rfl, _, rfl, iteB1 (by simp [ov]) ?_⟩⟩
      refine ⟨.ref l, rfl, .inl ⟨rfl, _, .inl (.inl hl)⟩, _, rfl, _, rfl, _, _, rfl, rfl, z, rfl, _, rfl, _, rfl, _, rfl, z, ss, rs, i, m, j, rfl, hZ.same s2, h1, h2, hj, _, _, rfl, rfl, _, rfl, sz60 (by simp), fun p np => ?_⟩
      have s3 := same_upd (o := .tup [V.int (x + y + cst (sm ss) (sm rs) i m j), V.int ((i + j : Nat) : Int)]) np
      have hl3 := s3 _ _ hl
      refine ⟨l, us, _, rfl, rfl, hl3, sz61 (by omega), ?_⟩
      refine ⟨_, _, _, us ++ [V.ref p], rfl, Same.mut (s2.trans s3) nl, upd_same, ?_⟩
      rw [hw, List.map_append]
      refine DpAll.keep (But.keep But.upd hl3) (fun d hd => ?_) (DpAll.append (DpAll.same s3 hA) (.cons ?_ .nil))
      · rcases List.mem_append.mp hd with hd | hd
        · obtain ⟨p, _, rfl⟩ := List.mem_map.mp hd
          exact tf_dP p
        · obtain ⟨p, _, rfl⟩ := List.mem_map.mp hd
          exact tf_dP p
      · exact dp_dP (.inl (.inl upd_same))
    · rintro σ H2 ⟨y6, y7, y8, us, rfl, s2, hl, hA⟩
      rw [en] at hA
      exact ⟨_, rfl, q _ l us s2 nl hl hA⟩
def sp_is_low (K : PySem.W.Frag) : Sp := fun vs H Q _ => ∃ (v vl vr z : V) (ss rs : List Int) (i m : Nat) (b : Int) (lf rg : Nat → Option Int), vs = [v, vl, vr, z, .int (i : Int), .int ((i + m : Nat) : Int)] ∧ Sms K H z ss rs ∧ i + m ≤ ss.length ∧ i + m ≤ rs.length ∧ ss.length ≤ 1000 ∧ Rd K H v i m b ∧ RdsO K H vl vr lf rg i m ∧
  ∀ H', Same H H' → Q (.bl (if m = 0 then decide (b ≤ 0) else lowV b (wbo lf rg (cst (sm ss) (sm rs) i m) i m))) H'
theorem ok_is_low (TX : Tx K mg) : FnOk P w K mg base CX0 3 TX.a_is_low TX.fd_is_low ["rows", "lefts", "rights", "sums", "start", "stop"] (sp_is_low K) := by
  refine TX.f_is_low.ok sc_is_low (fun vs H Q E h => ?_) (fun cdv A outer s H vs Q E hr h => ?_)
  · obtain ⟨v, vl, vr, z, ss, rs, i, m, b, lf, rg, rfl, _⟩ := h; rfl
  · obtain ⟨v, vl, vr, z, ss, rs, i, m, b, lf, rg, rfl, hZ, h1, h2, h3, hB, hR, q⟩ := h
    refine ⟨_, (pss_cons (ps_set (i := 6) sc_is_low.nd rfl (.inr rfl) (pe_ix (k_ixQ (K := K) rfl) (pe_ix (k_ixQ (K := K) rfl) (pv 0) (pv 4) (fun _ _ => rfl)) (pe_op op_sub (pv 5) (pv 4)) (fun _ _ => rfl)))
      (pss_cons (ps_if (pt_cmpR op_eq (pv 4) (pv 5) (nomark _))
        (pss_one (ps_ret (pe_cmpR op_le (pv 6) pe_int (nomark _))))
        pss_nil)
      (pss_one (ps_ret (pe_callB (id := "all") (cr_all rfl) (by rfl) TX.b_all (by decide +kernel) (pa_cons (pe_lc (own := [("most", 7), ("root", 8)]) (by rfl) sc_is_low.nd (k_piL (K := K) rfl (pe_call (ok_works_by_rootO TX) (hr.mono (by decide)) (by rfl) TX.g_works_by_root TX.f_works_by_root.kp TX.bd_works_by_root .nil pass0 (pa_cons (pv 1) (pa_cons (pv 2) (pa_cons (pv 3) (pa_cons (pv 4) (pa_cons (pv 5) pa_nil))))))) (blkOk_by (own := [("most", 7), ("root", 8)]) (N := N_is_low) (sc := defScope s_is_low) (by decide +kernel)) (fun _ _ _ _ _ => (k_pgT2 (K := K) rfl rfl (pg_name (i := 7) sc_is_low.nd rfl (Or.inl rfl)) (pg_name (i := 8) sc_is_low.nd rfl (Or.inl rfl)))) (fun _ _ _ _ _ => pts_nil) (fun _ _ _ _ _ => (pe_cmpR op_le (pv 6) (pv 7) (nomark _)))) pa_nil)))))), ?_⟩
    obtain ⟨a, xs, c, ys, rfl, g1, g2, g3, g4⟩ := hB
    have e2 : ((i + m : Nat) : Int) - ((i : Nat) : Int) = ((m : Nat) : Int) := by omega
    refine ⟨_, rfl, _, rfl, a, xs, _, _, rfl, rfl, g1, atI_nat g2, _, rfl, _, rfl, _, _, rfl, rfl, c, ys, _, _, rfl, rfl, g3, (by rw [e2]; exact atI_nat g4), ?_⟩
    refine ⟨_, rfl, _, rfl, rfl, _, rfl, ?_⟩
    by_cases hm : m = 0
    · have q' := q H (Same.refl H)
      rw [if_pos hm] at q'
      refine iteB1 (by simp; omega) ⟨_, rfl, _, _, rfl, rfl, q'⟩
    · refine iteB0 (by simp; omega) ?_
      refine ⟨vl, rfl, vr, rfl, z, rfl, _, rfl, _, rfl, vl, vr, z, ss, rs, i, m, lf, rg, rfl, hZ, h1, h2, h3, hR, fun H1 p us s1 np hp hA => ?_⟩
      have hul := DpAll.len hA
      have hwl := wbo_len lf rg (cst (sm ss) (sm rs) i m) i m
      rw [List.length_map] at hul
      refine ⟨p, rfl, ⟨_, .inl (.inl hp)⟩, fun D nD => ?_⟩
      refine lc_all (K := K) (walk_list (xs := us)) (((wbo lf rg (cst (sm ss) (sm rs) i m) i m).map fun p => decide (b ≤ p.1)).map PyData.bool) (by rw [List.length_map, List.length_map, hul]) (fun d h => by obtain ⟨b, _, rfl⟩ := List.mem_map.mp h; exact .bl b) (by omega) nD (fun H' s' => s'.seq (.inl (.inl hp))) ?_ ?_ mono_pair (fun σ' H' Q Q' h => h _ _)
      · rintro j x Hx Hx' hj sx ⟨rfl, hx⟩ d hd R hRR
        have hj2 : j < (wbo lf rg (cst (sm ss) (sm rs) i m) i m).length := by omega
        rw [List.getElem?_map, List.getElem?_map, List.getElem?_eq_getElem hj2] at hd
        cases hd
        obtain ⟨x', hx', hD⟩ := DpAll.get hA (i := j) (by rw [List.getElem?_map, List.getElem?_eq_getElem hj2]; rfl)
        rw [hx] at hx'
        cases hx'
        generalize (wbo lf rg (cst (sm ss) (sm rs) i m) i m)[j] = pr at hD hRR
        obtain ⟨pa, pb⟩ := pr
        obtain ⟨t, rfl, ht⟩ := Dp.intsInv (ns := [pa, pb]) hD
        refine ⟨t, _, rfl, Same.tup sx ht, rfl, _, _, rfl, _, _, rfl, rfl, rfl, rfl, _, rfl, _, rfl, _, _, rfl, rfl, hRR _ _ (Same.refl _) (.bl _)⟩
      · intro H5 acc s5 ha hA5
        rw [dpBoolsI hA5] at ha
        have q' := q H5 (s1.trans s5)
        rw [if_neg hm] at q'
        refine ⟨D, _, rfl, .inl (.inl ha), ?_⟩
        rw [List.all_map]
        exact q'
end
/-- the least work of the m flushes from i on within b runs and a writes -/
def lwb (S R : Nat → Int) : Nat → Nat → Nat → Nat → Option Int
  | _, _, _, 0 => some 0
  | 0, _, _, _ + 1 => none
  | _ + 1, 0, _, _ + 1 => none
  | b + 1, a + 1, i, m + 1 => (minP (wbo (fun k => lwb S R (b + 1) a i k) (fun k => lwb S R b (a + 1) (i + k + 1) (m - k)) (cst S R i (m + 1)) i (m + 1))).map (·.1)
termination_by b a => b + a
def bstw (S R : Nat → Int) (b a i m : Nat) : Option (Int × Int) := minP (wbo (fun k => lwb S R (b + 1) a i k) (fun k => lwb S R b (a + 1) (i + k + 1) (m - k)) (cst S R i (m + 1)) i (m + 1))
theorem lwb_zero (S R : Nat → Int) (b a i : Nat) : lwb S R b a i 0 = some 0 := by
  cases b <;> cases a <;> simp [lwb]
theorem lwb_b0 (S R : Nat → Int) (a i m : Nat) : lwb S R 0 a i (m + 1) = none := by
  cases a <;> simp [lwb]
theorem lwb_a0 (S R : Nat → Int) (b i m : Nat) : lwb S R b 0 i (m + 1) = none := by
  cases b <;> simp [lwb]
theorem lwb_succ (S R : Nat → Int) (b a i m : Nat) : lwb S R (b + 1) (a + 1) i (m + 1) = (bstw S R b a i m).map (·.1) := by
  rw [lwb]; rfl
/-- the longest schedule -/
def mxb : Nat → Nat → Nat
  | 0, _ => 0
  | _ + 1, 0 => 0
  | b + 1, a + 1 => mxb (b + 1) a + mxb b (a + 1) + 1
termination_by b a => b + a
theorem mxb_b0 (a : Nat) : mxb 0 a = 0 := by cases a <;> simp [mxb]
theorem mxb_a0 (b : Nat) : mxb b 0 = 0 := by cases b <;> simp [mxb]
theorem mxb_succ (b a : Nat) : mxb (b + 1) (a + 1) = mxb (b + 1) a + mxb b (a + 1) + 1 := by rw [mxb]
theorem wb1_some {l r : Nat → Option Int} {c : Nat → Int} {i k : Nat} {p : Int × Int} (h : wb1 l r c i k = some p) : ∃ x y, l k = some x ∧ r k = some y ∧ p = (x + y + c k, ((i + k : Nat) : Int)) := by
  unfold wb1 at h
  split at h
  · rename_i x y e1 e2
    exact ⟨x, y, e1, e2, (Option.some.inj h).symm⟩
  · cases h
theorem wb1_none {l r : Nat → Option Int} {c : Nat → Int} {i k : Nat} : wb1 l r c i k = none ↔ l k = none ∨ r k = none := by
  unfold wb1
  cases l k <;> cases r k <;> simp
theorem wbo_nil {l r : Nat → Option Int} {c : Nat → Int} {i m : Nat} : wbo l r c i m = [] ↔ ∀ k, k < m → l k = none ∨ r k = none := by
  constructor
  · intro h k hk
    rw [← wb1_none (c := c) (i := i)]
    cases e : wb1 l r c i k with
    | none => rfl
    | some p =>
      have := mem_wbo.mpr ⟨k, hk, e⟩
      rw [h] at this
      cases this
  · intro h
    refine List.eq_nil_iff_forall_not_mem.mpr fun p hp => ?_
    obtain ⟨k, hk, e⟩ := mem_wbo.mp hp
    rw [wb1_none.mpr (h k hk)] at e
    cases e
theorem lwb_none (S R : Nat → Int) : ∀ (n b a i m : Nat), b + a ≤ n → (lwb S R b a i m = none ↔ mxb b a < m)
  | n, b, a, i, 0, _ => by rw [lwb_zero]; simp
  | n, 0, a, i, m + 1, _ => by rw [lwb_b0, mxb_b0]; simp
  | n, b + 1, 0, i, m + 1, _ => by rw [lwb_a0, mxb_a0]; simp
  | 0, b + 1, a + 1, i, m + 1, h => absurd h (by omega)
  | n + 1, b + 1, a + 1, i, m + 1, h => by
    rw [lwb_succ, Option.map_eq_none_iff, bstw, minP_none, wbo_nil, mxb_succ]
    have h1 : ∀ k, lwb S R (b + 1) a i k = none ↔ mxb (b + 1) a < k := fun k => lwb_none S R n (b + 1) a i k (by omega)
    have h2 : ∀ k, lwb S R b (a + 1) (i + k + 1) (m - k) = none ↔ mxb b (a + 1) < m - k := fun k => lwb_none S R n b (a + 1) (i + k + 1) (m - k) (by omega)
    constructor
    · intro hh
      have := hh (min m (mxb (b + 1) a)) (by omega)
      rw [h1, h2] at this
      omega
    · intro hh k hk
      rw [h1, h2]
      omega
theorem lwb_some {S R : Nat → Int} {b a i m : Nat} (h : m ≤ mxb b a) : ∃ x, lwb S R b a i m = some x := by
  cases e : lwb S R b a i m with
  | some x => exact ⟨x, rfl⟩
  | none =>
    have := (lwb_none S R (b + a) b a i m (Nat.le_refl _)).mp e
    omega
/-- the root of the least tree -/
def rtb (S R : Nat → Int) (b a i m : Nat) : Nat := (((bstw S R b a i m).getD (0, 0)).2 - (i : Int)).toNat
theorem bst_some {S R : Nat → Int} {b a i m : Nat} {p : Int × Int} (h : bstw S R b a i m = some p) : ∃ x y, rtb S R b a i m ≤ m ∧ lwb S R (b + 1) a i (rtb S R b a i m) = some x ∧ lwb S R b (a + 1) (i + rtb S R b a i m + 1) (m - rtb S R b a i m) = some y ∧ p = (x + y + cst S R i (m + 1) (rtb S R b a i m), ((i + rtb S R b a i m : Nat) : Int)) := by
  obtain ⟨k, hk, e⟩ := mem_wbo.mp (minP_mem h)
  obtain ⟨x, y, e1, e2, e3⟩ := wb1_some e
  have er : rtb S R b a i m = k := by
    unfold rtb
    rw [h, e3]
    show (((i + k : Nat) : Int) - (i : Int)).toNat = k
    omega
  rw [er]
  exact ⟨x, y, by omega, e1, e2, e3⟩
theorem bst_ex {S R : Nat → Int} {b a i m : Nat} (h : m + 1 ≤ mxb (b + 1) (a + 1)) : ∃ p, bstw S R b a i m = some p := by
  obtain ⟨x, hx⟩ := lwb_some (S := S) (R := R) (i := i) h
  rw [lwb_succ, Option.map_eq_some_iff] at hx
  obtain ⟨p, hp, _⟩ := hx
  exact ⟨p, hp⟩
/-- the tree of least roots within b runs and a writes -/
def ltb (S R : Nat → Int) : Nat → Nat → Nat → Nat → T
  | _, _, _, 0 => .nil
  | 0, _, _, _ + 1 => .nil
  | _ + 1, 0, _, _ + 1 => .nil
  | b + 1, a + 1, i, m + 1 => .node (ltb S R (b + 1) a i (rtb S R b a i m)) (ltb S R b (a + 1) (i + rtb S R b a i m + 1) (m - rtb S R b a i m))
termination_by b a => b + a
theorem ltb_zero (S R : Nat → Int) (b a i : Nat) : ltb S R b a i 0 = .nil := by
  cases b <;> cases a <;> simp [ltb]
theorem ltb_succ (S R : Nat → Int) (b a i m : Nat) : ltb S R (b + 1) (a + 1) i (m + 1) = .node (ltb S R (b + 1) a i (rtb S R b a i m)) (ltb S R b (a + 1) (i + rtb S R b a i m + 1) (m - rtb S R b a i m)) := by rw [ltb]
theorem mxb_of {S R : Nat → Int} {b a i m : Nat} {x : Int} (h : lwb S R b a i m = some x) : m ≤ mxb b a := by
  have := (lwb_none S R (b + a) b a i m (Nat.le_refl _))
  rw [h] at this
  have h2 : ¬ mxb b a < m := fun z => by have := this.mpr z; cases this
  omega
theorem rtb_le {S R : Nat → Int} {b a i m : Nat} (h : m + 1 ≤ mxb (b + 1) (a + 1)) : rtb S R b a i m ≤ m ∧ rtb S R b a i m ≤ mxb (b + 1) a ∧ m - rtb S R b a i m ≤ mxb b (a + 1) := by
  obtain ⟨p, hp⟩ := bst_ex (S := S) (R := R) (i := i) h
  obtain ⟨x, y, h1, h2, h3, _⟩ := bst_some hp
  exact ⟨h1, mxb_of h2, mxb_of h3⟩
theorem ltb_size (S R : Nat → Int) : ∀ (n b a i m : Nat), b + a ≤ n → m ≤ mxb b a → (ltb S R b a i m).size = m
  | n, b, a, i, 0, _, _ => by rw [ltb_zero]; rfl
  | n, 0, a, i, m + 1, _, h => by rw [mxb_b0] at h; omega
  | n, b + 1, 0, i, m + 1, _, h => by rw [mxb_a0] at h; omega
  | 0, b + 1, a + 1, i, m + 1, h, _ => absurd h (by omega)
  | n + 1, b + 1, a + 1, i, m + 1, h, hm => by
    obtain ⟨h1, h2, h3⟩ := rtb_le (S := S) (R := R) (i := i) hm
    rw [ltb_succ, T.size, ltb_size S R n _ _ _ _ (by omega) h2, ltb_size S R n _ _ _ _ (by omega) h3]
    omega
/-- tables of ints and None -/
def dO : Option Int → PyData
  | none => .none
  | some i => .int i
theorem tf_dO (o : Option Int) : Tf (dO o) := by cases o; exact .non; exact .int _
theorem dp_ov {K : PySem.W.Frag} {H : Hp} (o : Option Int) : Dp K H (ov o) (dO o) := by cases o; exact .non; exact .int _
theorem dp_ov_inv {K : PySem.W.Frag} {H : Hp} {v : V} {o : Option Int} (h : Dp K H v (dO o)) : v = ov o := by
  cases o with
  | none => cases h; rfl
  | some i => cases h; rfl
def rowO (T : Nat → Nat → Option Int) (n i : Nat) : List (Option Int) := (List.range (n + 1 - i)).map (T i)
theorem rowO_len (T : Nat → Nat → Option Int) (n i : Nat) : (rowO T n i).length = n + 1 - i := by simp [rowO]
theorem rowO_at {T : Nat → Nat → Option Int} {n i m : Nat} (h : i + m ≤ n) : (rowO T n i)[m]? = some (T i m) := by
  unfold rowO
  rw [List.getElem?_map, List.getElem?_range (by omega)]; rfl
def dRowO (T : Nat → Nat → Option Int) (n i : Nat) : PyData := .tuple ((rowO T n i).map dO)
def dTabO (T : Nat → Nat → Option Int) (n : Nat) : PyData := .tuple ((List.range (n + 1)).map (dRowO T n))
theorem tf_rowO (T : Nat → Nat → Option Int) (n i : Nat) : Tf (dRowO T n i) := .tup fun d hd => by obtain ⟨o, _, rfl⟩ := List.mem_map.mp hd; exact tf_dO o
theorem tf_tabO (T : Nat → Nat → Option Int) (n : Nat) : Tf (dTabO T n) := .tup fun d hd => by obtain ⟨i, _, rfl⟩ := List.mem_map.mp hd; exact tf_rowO T n i
theorem dp_ovs {K : PySem.W.Frag} {H : Hp} : ∀ os : List (Option Int), DpAll K H (os.map ov) (os.map dO)
  | [] => .nil
  | o :: os => .cons (dp_ov o) (dp_ovs os)
theorem dp_ovs_inv {K : PySem.W.Frag} {H : Hp} : ∀ {os : List (Option Int)} {vs : List V}, DpAll K H vs (os.map dO) → vs = os.map ov
  | [], _, .nil => rfl
  | o :: os, _, .cons a b => by
    rw [dp_ov_inv a, dp_ovs_inv b]; rfl
theorem tabO_row {K : PySem.W.Frag} {H : Hp} {v : V} {T : Nat → Nat → Option Int} {n : Nat} (h : Dp K H v (dTabO T n)) : ∃ a xs, v = .ref a ∧ SqT K H a xs ∧ xs.length = n + 1 ∧ ∀ i, i ≤ n → ∃ b, xs[i]? = some (.ref b) ∧ SqT K H b ((rowO T n i).map ov) := by
  obtain ⟨a, xs, rfl, hS, hA⟩ := Dp.tupInv h
  refine ⟨a, xs, rfl, hS, by rw [DpAll.len hA]; simp, fun i hi => ?_⟩
  obtain ⟨x, hx, hD⟩ := DpAll.get hA (i := i) (d := dRowO T n i) (by rw [List.getElem?_map, List.getElem?_range (by omega)]; rfl)
  obtain ⟨b, ys, rfl, hB, hBA⟩ := Dp.tupInv hD
  rw [dp_ovs_inv hBA] at hB
  exact ⟨b, hx, hB⟩
theorem tabO_rd {K : PySem.W.Frag} {H : Hp} {v : V} {T : Nat → Nat → Option Int} {n : Nat} (h : Dp K H v (dTabO T n)) {i m : Nat} (hi : i + m ≤ n) : Rdo K H v i m (T i m) := by
  obtain ⟨a, xs, rfl, hS, _, hr⟩ := tabO_row h
  obtain ⟨b, hb, hB⟩ := hr i (by omega)
  refine ⟨a, xs, b, _, rfl, .inr hS, hb, .inr hB, ?_⟩
  rw [List.getElem?_map, rowO_at hi]; rfl
theorem tabO_rds {K : PySem.W.Frag} {H : Hp} {v u : V} {Tl Tr : Nat → Nat → Option Int} {n : Nat} (hl : Dp K H v (dTabO Tl n)) (hr : Dp K H u (dTabO Tr n)) {i m : Nat} (hi : i + m ≤ n) : RdsO K H v u (Tl i) (fun k => Tr (i + k + 1) (m - 1 - k)) i m :=
  ⟨fun k hk => tabO_rd hl (by omega), fun k hk => tabO_rd hr (by omega)⟩
def ovr (S R : Nat → Int) (Tl Tr : Nat → Nat → Option Int) (i m : Nat) : Option Int := if m = 0 then some 0 else (minP (wbo (Tl i) (fun k => Tr (i + k + 1) (m - 1 - k)) (cst S R i m) i m)).map (·.1)
theorem ovr_lwb (S R : Nat → Int) (b a : Nat) : ovr S R (lwb S R (b + 1) a) (lwb S R b (a + 1)) = lwb S R (b + 1) (a + 1) := by
  funext i m
  cases m with
  | zero => rw [lwb_zero]; rfl
  | succ m => rw [lwb_succ]; rfl
def bare : Nat → Nat → Option Int := fun _ m => if m = 0 then some 0 else none
theorem bare_b0 (S R : Nat → Int) (a : Nat) : lwb S R 0 a = bare := by
  funext i m
  cases m with
  | zero => rw [lwb_zero]; rfl
  | succ m => rw [lwb_b0]; rfl
theorem bare_a0 (S R : Nat → Int) (b : Nat) : lwb S R b 0 = bare := by
  funext i m
  cases m with
  | zero => rw [lwb_zero]; rfl
  | succ m => rw [lwb_a0]; rfl
section
variable {P : Program} {w : World} {K : PySem.W.Frag} {mg : Str → Option Value} {base : Heap}
def sp_rows_without_trees (K : PySem.W.Frag) : Sp := fun vs H Q _ => ∃ (n : Nat), vs = [.int (n : Int)] ∧ n ≤ 100 ∧ ∀ H' p, Same H H' → Dp K H' (.ref p) (dTabO bare n) → Q (.ref p) H'
theorem bare_row (n i : Nat) (h : i ≤ n) : (rowO bare n i).map ov = V.int 0 :: List.replicate (n - i) V.non := by
  unfold rowO
  rw [show n + 1 - i = n - i + 1 by omega, List.range_succ_eq_map, List.map_cons, List.map_cons, List.map_map, List.map_map]
  congr 1
  refine List.ext_getElem? fun j => ?_
  rw [List.getElem?_map, List.getElem?_replicate]
  by_cases hj : j < n - i
  · rw [List.getElem?_range hj, if_pos hj]; rfl
  · rw [List.getElem?_eq_none (by simp; omega), if_neg hj]; rfl
theorem ok_rows_without_trees (TX : Tx K mg) : FnOk P w K mg base CX0 1 TX.a_rows_without_trees TX.fd_rows_without_trees ["n"] (sp_rows_without_trees K) := by
  refine TX.f_rows_without_trees.ok sc_rows_without_trees (fun vs H Q E h => ?_) (fun cdv A outer s H vs Q E hr h => ?_)
  · obtain ⟨n, rfl, _⟩ := h; rfl
  · obtain ⟨n, rfl, hn, q⟩ := h
    refine ⟨_, (pss_one (ps_ret (pe_callTy (T := "tuple") (k_tupOf (K := K) rfl) (by rfl) TX.b_tuple (by decide +kernel) (pa_cons (pe_lc (own := [("start", 1)]) (by rfl) sc_rows_without_trees.nd (pi_range1 (by rfl) TX.b_range (pa_cons (pe_op op_add (pv 0) pe_int) pa_nil)) (blkOk_by (own := [("start", 1)]) (N := N_rows_without_trees) (sc := defScope s_rows_without_trees) (by decide +kernel)) (fun _ _ _ _ _ => (pg_name (i := 1) sc_rows_without_trees.nd rfl (Or.inl rfl))) (fun _ _ _ _ _ => pts_nil) (fun _ _ _ _ _ => (pe_op (k_catT (K := K) rfl) (pe_tup (pa_cons pe_int pa_nil)) (pe_op (k_repZ (K := K) rfl) (pe_tup (pa_cons pe_non pa_nil)) (pe_op op_sub (pv 0) (pv 1)))))) pa_nil)))), ?_⟩
    refine ⟨_, rfl, _, _, rfl, rfl, _, rfl, by omega, by omega, fun D nD => ?_⟩
    have en : (((n : Int) + 1)).toNat = n + 1 := by omega
    refine lc_all (K := K) walk_range ((List.range (n + 1)).map (dRowO bare n)) (by simp <;> omega) (fun d h => by obtain ⟨i, _, rfl⟩ := List.mem_map.mp h; exact tf_rowO _ _ _) (by omega) nD (fun _ _ => trivial) ?_ ?_ (fun x σ' H' Q Q' h => h _ _) (fun σ' H' Q Q' h => h _ _)
    · rintro i x Hx Hx' hi sx hy d hd R hR
      obtain ⟨rfl, rfl⟩ := hy
      have ei : (0 : Int) + ((i : Nat) : Int) = ((i : Nat) : Int) := by omega
      dsimp only
      rw [ei]
      rw [List.getElem?_map, List.getElem?_range (by omega)] at hd
      cases hd
      have eni : ((n : Int) - ((i : Nat) : Int)) = ((n - i : Nat) : Int) := by omega
      refine ⟨rfl, rfl, sz60 (by simp), fun p1 np1 => ⟨sz60 (by simp), fun p2 np2 => ⟨_, rfl, _, rfl, _, _, rfl, rfl, ?_⟩⟩⟩
      dsimp only
      rw [eni]
      have t1 := same_upd (o := .tup [V.int 0]) np1
      have t2 := same_upd (o := .tup [V.non]) np2
      refine repZ_read (xs := [V.non]) (.inl (.inl upd_same)) (by simp) (by omega) (by simp) fun p3 G3 z3 i3 => ?_
      have er : (List.replicate (n - i) [V.non]).flatten = List.replicate (n - i) V.non := by
        rw [List.flatten_replicate_singleton]
      rw [er] at i3
      refine cat_read (Same.tup (t2.trans z3) (.inl (.inl upd_same))) i3 (by simp; omega) fun p4 G4 z4 i4 => ?_
      refine hR _ _ (((t1.trans t2).trans z3).trans z4) ?_
      rw [List.singleton_append, ← bare_row n i (by omega)] at i4
      exact .tup i4 (dp_ovs _)
    · intro H5 acc s5 ha hA5
      refine ⟨D, _, rfl, .inl ⟨.inl (.inl ha), fun o no => ?_⟩⟩
      exact q _ o (s5.trans (same_upd no)) (.tup (.inl (.inl upd_same)) (DpAll.same (same_upd no) hA5))
def sp_rows_over (K : PySem.W.Frag) : Sp := fun vs H Q _ => ∃ (v u z : V) (ss rs : List Int) (Tl Tr : Nat → Nat → Option Int) (n : Nat), vs = [v, u, z, .int (n : Int)] ∧ Sms K H z ss rs ∧ n = ss.length ∧ n = rs.length ∧ n ≤ 100 ∧ Dp K H v (dTabO Tl n) ∧ Dp K H u (dTabO Tr n) ∧
  ∀ H' p, Same H H' → Dp K H' (.ref p) (dTabO (ovr (sm ss) (sm rs) Tl Tr) n) → Q (.ref p) H'
theorem ok_rows_over (TX : Tx K mg) : FnOk P w K mg base CX0 3 TX.a_rows_over TX.fd_rows_over ["lefts", "rights", "sums", "n"] (sp_rows_over K) := by
  refine TX.f_rows_over.ok sc_rows_over (fun vs H Q E h => ?_) (fun cdv A outer s H vs Q E hr h => ?_)
  · obtain ⟨v, u, z, ss, rs, Tl, Tr, n, rfl, _⟩ := h; rfl
  · obtain ⟨v, u, z, ss, rs, Tl, Tr, n, rfl, hZ, h1, h2, hn, hL, hR, q⟩ := h
    refine ⟨_, (pss_cons (ps_set (i := 4) sc_rows_over.nd rfl (.inl rfl) (pe_lst pa_nil))
      (pss_cons (ps_for PassesOwn.never rfl (pi_range1 (by rfl) TX.b_range (pa_cons (pe_op op_add (pv 3) pe_int) pa_nil)) (pg_name (i := 5) sc_rows_over.nd rfl (.inl rfl))
        (pss_cons (ps_set (i := 6) sc_rows_over.nd rfl (.inl rfl) (pe_lst (pa_cons pe_int pa_nil)))
        (pss_cons (ps_for PassesOwn.never rfl (pi_range2 (by rfl) TX.b_range (pa_cons (pe_op op_add (pv 5) pe_int) (pa_cons (pe_op op_add (pv 3) pe_int) pa_nil))) (pg_name (i := 7) sc_rows_over.nd rfl (.inl rfl))
          (pss_cons (ps_asg (pe_callBK (id := "min") (cr_minPD (K := K) rfl rfl hr.units) (by rfl) TX.b_min (by decide +kernel) (pa_cons (pe_call (ok_works_by_rootO TX) (hr.mono (by decide)) (by rfl) TX.g_works_by_root TX.f_works_by_root.kp TX.bd_works_by_root .nil pass0 (pa_cons (pv 0) (pa_cons (pv 1) (pa_cons (pv 2) (pa_cons (pv 5) (pa_cons (pv 7) pa_nil)))))) pa_nil) (pk_cons (pe_tup (pa_cons pe_non (pa_cons pe_non pa_nil))) pk_nil)) (pg_tup rfl (pgs_cons (pg_name (i := 8) sc_rows_over.nd rfl (.inl rfl)) (pgs_cons (pg_name (i := 9) sc_rows_over.nd rfl (.inl rfl)) pgs_nil))))
          (pss_one (ps_expr (pe_bm PySem.F.plainAttrs_list PySem.F.slot_list_append PySem.F.type_list_append mt_append (pv 6) (pa_cons (pv 8) pa_nil))))))
        (pss_one (ps_expr (pe_bm PySem.F.plainAttrs_list PySem.F.slot_list_append PySem.F.type_list_append mt_append (pv 4) (pa_cons (pe_callTy (T := "tuple") (k_tupOf (K := K) rfl) (by rfl) TX.b_tuple (by decide +kernel) (pa_cons (pv 6) pa_nil)) pa_nil)))))))
      (pss_one (ps_ret (pe_callTy (T := "tuple") (k_tupOf (K := K) rfl) (by rfl) TX.b_tuple (by decide +kernel) (pa_cons (pv 4) pa_nil)))))), ?_⟩
    obtain ⟨TT, hTT⟩ : ∃ TT, TT = ovr (sm ss) (sm rs) Tl Tr := ⟨_, rfl⟩
    rw [← hTT] at q
    have en : (((n : Int) + 1)).toNat = n + 1 := by omega
    refine ⟨sz60 (by simp), fun l nl => ?_⟩
    have s1 := same_upd (o := .lst []) nl
    refine ⟨_, rfl, _, _, rfl, rfl, _, rfl, by omega, by omega, for_range (lo := 0) (fun i σ H' => ∃ y5 y6 y7 y8 y9 us, σ = [some v, some u, some z, some (.int (n : Int)), some (.ref l), y5, y6, y7, y8, y9] ∧ Same H H' ∧ H' l = some (.lst us) ∧ DpAll K H' us ((List.range i).map (dRowO TT n))) ⟨_, _, _, _, _, [], rfl, s1, upd_same, .nil⟩ ?_ ?_⟩
    · rintro i σ H2 hi ⟨y5, y6, y7, y8, y9, us, rfl, s2, hl2, hA2⟩
      rw [en] at hi
      have ei : (0 : Int) + ((i : Nat) : Int) = ((i : Nat) : Int) := by omega
      rw [ei]
      refine ⟨sz60 (by simp), fun r nr => ?_⟩
      have s3 := same_upd (o := .lst [V.int 0]) nr
      have nlr : l ≠ r := fun e => by rw [← e, hl2] at nr; cases nr
      have en2 : ((n : Int) + 1 - (((i : Nat) : Int) + 1)).toNat = n - i := by omega
      refine ⟨_, rfl, _, _, rfl, rfl, _, rfl, _, _, rfl, rfl, _, _, rfl, ⟨by omega, by omega, by omega, by omega⟩, ?_⟩
      refine for_range (lo := ((i : Nat) : Int) + 1) (fun m σ H' => ∃ y7 y8 y9, σ = [some v, some u, some z, some (.int (n : Int)), some (.ref l), some (.int (i : Int)), some (.ref r), y7, y8, y9] ∧ Same H2 H' ∧ H' r = some (.lst (((List.range (m + 1)).map (TT i)).map ov))) ⟨_, _, _, rfl, s3, ?_⟩ ?_ ?_
      · rw [upd_same, hTT]; rfl
      · rintro m σ H4 hm ⟨y7, y8, y9, rfl, s4, hr4⟩
        rw [en2] at hm
        have em : ((i : Nat) : Int) + 1 + ((m : Nat) : Int) = ((i + (m + 1) : Nat) : Int) := by omega
        rw [em]
        have s24 := s2.trans s4
        refine ⟨v, rfl, u, rfl, z, rfl, _, rfl, _, rfl, v, u, z, ss, rs, i, m + 1, Tl i, (fun k => Tr (i + k + 1) (m + 1 - 1 - k)), rfl, hZ.same s24, by omega, by omega, by omega, tabO_rds (Dp.same s24 hL) (Dp.same s24 hR) (by omega), fun H5 p us' s5 np hp hA5 => ?_⟩
        refine ⟨sz60 (by simp), fun dd ndd => ?_⟩
        have s6 := same_upd (o := .tup [V.non, V.non]) ndd
        have hr6 := s6 _ _ (s5 _ _ hr4)
        have step : ∀ H7, Same H5 H7 → ∀ x, x = ov (TT i (m + 1)) → Same H2 (upd H7 r (.lst (((List.range (m + 1)).map (TT i)).map ov ++ [x]))) ∧ (upd H7 r (.lst (((List.range (m + 1)).map (TT i)).map ov ++ [x]))) r = some (.lst (((List.range (m + 1 + 1)).map (TT i)).map ov)) := fun H7 s7 x hx => by
          refine ⟨Same.mut ((s4.trans s5).trans s7) nr, ?_⟩
          rw [upd_same, List.range_succ (n := m + 1), List.map_append, List.map_append, hx]; rfl
        have hT : TT i (m + 1) = (minP (wbo (Tl i) (fun k => Tr (i + k + 1) (m + 1 - 1 - k)) (cst (sm ss) (sm rs) i (m + 1)) i (m + 1))).map (·.1) := by
          rw [hTT]; rfl
        refine ⟨p, us', _, .ref dd, rfl, rfl, .inl (.inl (s6 _ _ hp)), DpAll.same s6 hA5, fun h0 => ?_, fun pr hpr b hb => ?_⟩
        · refine ⟨dd, _, rfl, .inl (.inl upd_same), rfl, _, _, rfl, _, _, rfl, rfl, ?_⟩
          refine ⟨.ref r, rfl, .inl ⟨rfl, _, .inl (.inl hr6)⟩, _, rfl, r, _, _, rfl, rfl, hr6, sz61 (by simp; omega), ?_⟩
          exact ⟨_, _, _, rfl, step _ s6 _ (by rw [hT, h0]; rfl)⟩
        · refine ⟨b, _, rfl, hb, rfl, _, _, rfl, _, _, rfl, rfl, ?_⟩
          refine ⟨.ref r, rfl, .inl ⟨rfl, _, .inl (.inl hr6)⟩, _, rfl, r, _, _, rfl, rfl, hr6, sz61 (by simp; omega), ?_⟩
          exact ⟨_, _, _, rfl, step _ s6 _ (by rw [hT, hpr]; rfl)⟩
      · rintro σ H4 ⟨y7, y8, y9, rfl, s4, hr4⟩
        rw [en2, show n - i + 1 = n + 1 - i by omega] at hr4
        have hl4 := s4 _ _ hl2
        refine ⟨.ref l, rfl, .inl ⟨rfl, _, .inl (.inl hl4)⟩, .ref r, rfl, r, _, rfl, .inl ⟨.inl (.inl hr4), fun o no => ?_⟩⟩
        have s5 := same_upd (o := .tup (((List.range (n + 1 - i)).map (TT i)).map ov)) no
        have hl5 := s5 _ _ hl4
        have hul := DpAll.len hA2
        rw [List.length_map, List.length_range] at hul
        refine ⟨l, us, _, rfl, rfl, hl5, sz61 (by omega), ?_⟩
        refine ⟨_, _, _, _, _, us ++ [V.ref o], rfl, Same.mut ((s2.trans s4).trans s5) nl, upd_same, ?_⟩
        rw [List.range_succ, List.map_append]
        refine DpAll.keep (But.keep But.upd hl5) (fun d hd => ?_) (DpAll.append (DpAll.same (s4.trans s5) hA2) (.cons (.tup (.inl (.inl upd_same)) (dp_ovs _)) .nil))
        rcases List.mem_append.mp hd with hd | hd
        · obtain ⟨j, _, rfl⟩ := List.mem_map.mp hd
          exact tf_rowO _ _ _
        · rw [List.mem_singleton.mp hd]
          exact tf_rowO _ _ _
    · rintro σ H2 ⟨y5, y6, y7, y8, y9, us, rfl, s2, hl2, hA2⟩
      rw [en] at hA2
      refine ⟨.ref l, rfl, l, _, rfl, .inl ⟨.inl (.inl hl2), fun o no => ?_⟩⟩
      exact q _ o (s2.trans (same_upd no)) (.tup (.inl (.inl upd_same)) (DpAll.same (same_upd no) hA2))
end
def dRowG (S R : Nat → Int) (n c b : Nat) : PyData := .tuple ((List.range c).map fun a => dTabO (lwb S R b a) n)
/-- the tables within all budgets up to (k, c) -/
def dGrid (S R : Nat → Int) (n k c : Nat) : PyData := .tuple ((List.range (k + 1)).map (dRowG S R n (c + 1)))
theorem tf_rowG (S R : Nat → Int) (n c b : Nat) : Tf (dRowG S R n c b) := .tup fun d hd => by obtain ⟨a, _, rfl⟩ := List.mem_map.mp hd; exact tf_tabO _ _
theorem tf_grid (S R : Nat → Int) (n k c : Nat) : Tf (dGrid S R n k c) := .tup fun d hd => by obtain ⟨a, _, rfl⟩ := List.mem_map.mp hd; exact tf_rowG _ _ _ _ _
/-- v[b][a] is u -/
theorem grid_at {K : PySem.W.Frag} {H : Hp} {v : V} {S R : Nat → Int} {n k c b a : Nat} (h : Dp K H v (dGrid S R n k c)) (hb : b ≤ k) (ha : a ≤ c) : ∃ p xs r ys t, v = .ref p ∧ SqT K H p xs ∧ xs[b]? = some (.ref r) ∧ SqT K H r ys ∧ ys[a]? = some (.ref t) ∧ Dp K H (.ref t) (dTabO (lwb S R b a) n) := by
  obtain ⟨p, xs, rfl, hS, hA⟩ := Dp.tupInv h
  obtain ⟨x, hx, hD⟩ := DpAll.get hA (i := b) (d := dRowG S R n (c + 1) b) (by rw [List.getElem?_map, List.getElem?_range (by omega)]; rfl)
  obtain ⟨r, ys, rfl, hS2, hA2⟩ := Dp.tupInv hD
  obtain ⟨y, hy, hD2⟩ := DpAll.get hA2 (i := a) (d := dTabO (lwb S R b a) n) (by rw [List.getElem?_map, List.getElem?_range (by omega)]; rfl)
  obtain ⟨t, zs, rfl, hS3, hA3⟩ := Dp.tupInv hD2
  exact ⟨p, xs, r, ys, t, rfl, hS, hx, hS2, hy, .tup hS3 hA3⟩
def TbAt (K : PySem.W.Frag) (H : Hp) (A : Addr) (as : List Addr) (S R : Nat → Int) (n : Nat) (f : Nat → Nat) : Prop :=
  H A = some (.lst (as.map V.ref)) ∧ as.Nodup ∧ (∀ x, x ∈ as → x ≠ A) ∧ ∀ j x, as[j]? = some x → ∃ us, H x = some (.lst us) ∧ DpAll K H us ((List.range (f j)).map fun a => dTabO (lwb S R j a) n)
section
variable {K : PySem.W.Frag} {H H' : Hp} {A : Addr} {as : List Addr} {S R : Nat → Int} {n : Nat} {f g : Nat → Nat}
theorem TbAt.same (h : TbAt K H A as S R n f) (e : Same H H') : TbAt K H' A as S R n f :=
  ⟨e _ _ h.1, h.2.1, h.2.2.1, fun j x hx => by
    obtain ⟨us, h1, h2⟩ := h.2.2.2 j x hx
    exact ⟨us, e _ _ h1, DpAll.same e h2⟩⟩
theorem TbAt.congr (h : TbAt K H A as S R n f) (e : ∀ j, j < as.length → f j = g j) : TbAt K H A as S R n g :=
  ⟨h.1, h.2.1, h.2.2.1, fun j x hx => by
    rw [← e j (List.getElem?_eq_some_iff.mp hx).1]
    exact h.2.2.2 j x hx⟩
theorem tf_tabs {m j : Nat} : ∀ d, d ∈ (List.range m).map (fun a => dTabO (lwb S R j a) n) → Tf d := fun d hd => by
  obtain ⟨a, _, rfl⟩ := List.mem_map.mp hd
  exact tf_tabO _ _
theorem TbAt.row (h : TbAt K H A as S R n f) {p : Addr} (hp : H p = none) (hf : f as.length = 0) : TbAt K (upd (upd H p (.lst [])) A (.lst (as.map V.ref ++ [V.ref p]))) A (as ++ [p]) S R n f := by
  obtain ⟨h1, h2, h3, h4⟩ := h
  have s1 := same_upd (o := .lst []) hp
  have npA : p ≠ A := fun e => by rw [e, h1] at hp; cases hp
  have kp : Keep K (upd H p (.lst [])) (upd (upd H p (.lst [])) A (.lst (as.map V.ref ++ [V.ref p]))) := But.keep But.upd (s1 _ _ h1)
  refine ⟨by rw [upd_same, List.map_append]; rfl, ?_, ?_, ?_⟩
  · rw [List.nodup_append]
    refine ⟨h2, by simp, fun x hx y hy => ?_⟩
    rw [List.mem_singleton.mp hy]
    intro e
    obtain ⟨j, hj⟩ := List.mem_iff_getElem?.mp hx
    obtain ⟨us, h5, _⟩ := h4 j x hj
    rw [← e, h5] at hp; cases hp
  · intro x hx
    rcases List.mem_append.mp hx with hx | hx
    · exact h3 x hx
    · rw [List.mem_singleton.mp hx]; exact npA
  · intro j x hx
    by_cases hj : j < as.length
    · rw [List.getElem?_append_left hj] at hx
      obtain ⟨us, h5, h6⟩ := h4 j x hx
      refine ⟨us, by rw [upd_ne (h3 x (List.mem_of_getElem? hx))]; exact s1 _ _ h5, DpAll.keep kp tf_tabs (DpAll.same s1 h6)⟩
    · rw [List.getElem?_append_right (by omega)] at hx
      have hj0 : j - as.length = 0 := by
        have := (List.getElem?_eq_some_iff.mp hx).1
        simp at this
        omega
      rw [hj0] at hx
      cases hx
      refine ⟨[], by rw [upd_ne npA]; exact upd_same, ?_⟩
      rw [show j = as.length by omega, hf]
      exact .nil
theorem TbAt.add (h : TbAt K H A as S R n f) {b : Nat} {x t : Addr} {us : List V} (hx : as[b]? = some x) (hu : H x = some (.lst us)) (ht : Dp K H (.ref t) (dTabO (lwb S R b (f b)) n)) : TbAt K (upd H x (.lst (us ++ [.ref t]))) A as S R n (fun j => if j = b then f b + 1 else f j) := by
  obtain ⟨h1, h2, h3, h4⟩ := h
  have kp : Keep K H (upd H x (.lst (us ++ [.ref t]))) := But.keep But.upd hu
  have hm := List.mem_of_getElem? hx
  refine ⟨by rw [upd_ne (h3 x hm).symm]; exact h1, h2, h3, fun j y hy => ?_⟩
  by_cases e : j = b
  · subst e
    rw [hx] at hy
    cases hy
    obtain ⟨us', h5, h6⟩ := h4 j x hx
    rw [hu] at h5
    cases h5
    refine ⟨us ++ [.ref t], upd_same, ?_⟩
    dsimp only
    rw [if_pos rfl, List.range_succ, List.map_append]
    refine DpAll.keep kp (fun d hd => ?_) (DpAll.append h6 (.cons ht .nil))
    rcases List.mem_append.mp hd with hd | hd
    · exact tf_tabs d hd
    · exact tf_tabs (m := f j + 1) d (by
        rw [List.mem_singleton.mp hd]
        exact List.mem_map.mpr ⟨f j, List.mem_range.mpr (by omega), rfl⟩)
  · obtain ⟨us', h5, h6⟩ := h4 j y hy
    have hne : y ≠ x := fun ey => by
      subst ey
      exact e ((List.getElem?_inj (List.getElem?_eq_some_iff.mp hy).1 h2).mp (hy.trans hx.symm))
    dsimp only
    rw [if_neg e]
    exact ⟨us', by rw [upd_ne hne]; exact h5, DpAll.keep kp tf_tabs h6⟩
theorem TbAt.rd (h : TbAt K H A as S R n f) {b a : Nat} (hb : b < as.length) (ha : a < f b) : ∃ x us t, as[b]? = some x ∧ H x = some (.lst us) ∧ us[a]? = some (.ref t) ∧ Dp K H (.ref t) (dTabO (lwb S R b a) n) := by
  obtain ⟨us, h5, h6⟩ := h.2.2.2 b as[b] (List.getElem?_eq_getElem hb)
  obtain ⟨y, hy, hD⟩ := DpAll.get h6 (i := a) (d := dTabO (lwb S R b a) n) (by rw [List.getElem?_map, List.getElem?_range ha]; rfl)
  obtain ⟨t, zs, rfl, hS3, hA3⟩ := Dp.tupInv hD
  exact ⟨as[b], us, t, List.getElem?_eq_getElem hb, h5, hy, .tup hS3 hA3⟩
end
section
variable {P : Program} {w : World} {K : PySem.W.Frag} {mg : Str → Option Value} {base : Heap}
def sp_least_tables (K : PySem.W.Frag) : Sp := fun vs H Q _ => ∃ (a b : Addr) (ss rs : List Int) (k c : Nat), vs = [.ref a, .ref b, .int (k : Int), .int (c : Int)] ∧ SqT K H a (ss.map V.int) ∧ SqT K H b (rs.map V.int) ∧ ss.length = rs.length ∧ ss.length ≤ 60 ∧ k ≤ 60 ∧ c ≤ 60 ∧ ∀ H' p, Same H H' → Dp K H' (.ref p) (dGrid (sm ss) (sm rs) ss.length k c) → Q (.ref p) H'
theorem ok_least_tables (TX : Tx K mg) : FnOk P w K mg base CX0 4 TX.a_least_tables TX.fd_least_tables ["sizes", "reads", "k", "c"] (sp_least_tables K) := by
  refine TX.f_least_tables.ok sc_least_tables (fun vs H Q E h => ?_) (fun cdv A outer s H vs Q E hr h => ?_)
  · obtain ⟨a, b, ss, rs, k, c, rfl, _⟩ := h; rfl
  · obtain ⟨a, b, ss, rs, k, c, rfl, hA, hB, he, h1, hk, hc, q⟩ := h
    refine ⟨_, (pss_cons (ps_set (i := 4) sc_least_tables.nd rfl (.inl rfl) (pe_callB (id := "len") (k_len (K := K) rfl) (by rfl) TX.b_len (by decide +kernel) (pa_cons (pv 0) pa_nil)))
      (pss_cons (ps_set (i := 5) sc_least_tables.nd rfl (.inl rfl) (pe_call (ok_load_sums TX) (hr.mono (by decide)) (by rfl) TX.g_load_sums TX.f_load_sums.kp TX.bd_load_sums .nil pass0 (pa_cons (pv 0) (pa_cons (pv 1) pa_nil))))
      (pss_cons (ps_set (i := 6) sc_least_tables.nd rfl (.inl rfl) (pe_lst pa_nil))
      (pss_cons (ps_for PassesOwn.never rfl (pi_range1 (by rfl) TX.b_range (pa_cons (pe_op op_add (pv 2) pe_int) pa_nil)) (pg_name (i := 7) sc_least_tables.nd rfl (.inl rfl))
        (pss_cons (ps_expr (pe_bm PySem.F.plainAttrs_list PySem.F.slot_list_append PySem.F.type_list_append mt_append (pv 6) (pa_cons (pe_lst pa_nil) pa_nil)))
        (pss_one (ps_for PassesOwn.never rfl (pi_range1 (by rfl) TX.b_range (pa_cons (pe_op op_add (pv 3) pe_int) pa_nil)) (pg_name (i := 8) sc_least_tables.nd rfl (.inl rfl))
          (pss_one (ps_if (PW.pt (pw_or (pt_cmpR op_eq (pv 7) pe_int (nomark _)) (pw_or1 (pt_cmpR op_eq (pv 8) pe_int (nomark _)))))
            (pss_one (ps_expr (pe_bm PySem.F.plainAttrs_list PySem.F.slot_list_append PySem.F.type_list_append mt_append (pe_ix (k_ixL (K := K) rfl) (pv 6) (pv 7) (fun _ _ => rfl)) (pa_cons (pe_call (ok_rows_without_trees TX) (hr.mono (by decide)) (by rfl) TX.g_rows_without_trees TX.f_rows_without_trees.kp TX.bd_rows_without_trees .nil pass0 (pa_cons (pv 4) pa_nil)) pa_nil))))
            (pss_one (ps_expr (pe_bm PySem.F.plainAttrs_list PySem.F.slot_list_append PySem.F.type_list_append mt_append (pe_ix (k_ixL (K := K) rfl) (pv 6) (pv 7) (fun _ _ => rfl)) (pa_cons (pe_call (ok_rows_over TX) (hr.mono (by decide)) (by rfl) TX.g_rows_over TX.f_rows_over.kp TX.bd_rows_over .nil pass0 (pa_cons (pe_ix (k_ixL (K := K) rfl) (pe_ix (k_ixL (K := K) rfl) (pv 6) (pv 7) (fun _ _ => rfl)) (pe_op op_sub (pv 8) pe_int) (fun _ _ => rfl)) (pa_cons (pe_ix (k_ixL (K := K) rfl) (pe_ix (k_ixL (K := K) rfl) (pv 6) (pe_op op_sub (pv 7) pe_int) (fun _ _ => rfl)) (pv 8) (fun _ _ => rfl)) (pa_cons (pv 5) (pa_cons (pv 4) pa_nil))))) pa_nil))))))))))
      (pss_one (ps_ret (pe_callTy (T := "tuple") (k_tupOf (K := K) rfl) (by rfl) TX.b_tuple (by decide +kernel) (pa_cons (pe_lc (own := [("row", 9)]) (by rfl) sc_least_tables.nd (k_piL (K := K) rfl (pv 6)) (blkOk_by (own := [("row", 9)]) (N := N_least_tables) (sc := defScope s_least_tables) (by decide +kernel)) (fun _ _ _ _ _ => (pg_name (i := 9) sc_least_tables.nd rfl (Or.inl rfl))) (fun _ _ _ _ _ => pts_nil) (fun _ _ _ _ _ => (pe_callTy (T := "tuple") (k_tupOf (K := K) rfl) (by rfl) TX.b_tuple (by decide +kernel) (pa_cons (pv 9) pa_nil)))) pa_nil)))))))), ?_⟩
    obtain ⟨n, hn⟩ : ∃ n, n = ss.length := ⟨_, rfl⟩
    have hlen : ((ss.map V.int).length : Int) = (n : Int) := by rw [List.length_map, hn]
    rw [← hn] at q h1
    refine ⟨.ref a, rfl, a, _, rfl, .inr hA, ?_⟩
    rw [hlen]
    refine ⟨.ref a, rfl, .ref b, rfl, a, b, ss, rs, rfl, hA, hB, by omega, by omega, fun H1 z s1 hZ => ?_⟩
    refine ⟨sz60 (by simp), fun Ad nA => ?_⟩
    have s2 := same_upd (o := .lst []) nA
    have ek : (((k : Int) + 1)).toNat = k + 1 := by omega
    have ec : (((c : Int) + 1)).toNat = c + 1 := by omega
    refine ⟨_, rfl, _, _, rfl, rfl, _, rfl, by omega, by omega, for_range (lo := 0) (fun x σ H' => ∃ y7 y8 y9 as, σ = [some (.ref a), some (.ref b), some (.int (k : Int)), some (.int (c : Int)), some (.int (n : Int)), some (.ref z), some (.ref Ad), y7, y8, y9] ∧ Same H1 H' ∧ as.length = x ∧ (∀ r, r ∈ as → H1 r = none) ∧ TbAt K H' Ad as (sm ss) (sm rs) n (fun j => if j < x then c + 1 else 0)) ⟨_, _, _, [], rfl, s2, rfl, (by simp), upd_same, List.nodup_nil, (by simp), (by simp)⟩ ?_ ?_⟩
    · rintro x σ H3 hx ⟨y7, y8, y9, as, rfl, s3, hal, hfr, hT3⟩
      rw [ek] at hx
      have ex : (0 : Int) + ((x : Nat) : Int) = ((x : Nat) : Int) := by omega
      rw [ex]
      refine ⟨.ref Ad, rfl, .inl ⟨rfl, _, .inl (.inl hT3.1)⟩, sz60 (by simp), fun r nr => ?_⟩
      have s4 := same_upd (o := .lst []) nr
      refine ⟨Ad, _, _, rfl, rfl, s4 _ _ hT3.1, sz61 (by rw [List.length_map]; omega), ?_⟩
      have hT4 := hT3.row nr (by rw [hal]; simp)
      have s14 : Same H1 (upd (upd H3 r (.lst [])) Ad (.lst (as.map V.ref ++ [V.ref r]))) := Same.mut (s3.trans s4) nA
      generalize upd (upd H3 r (.lst [])) Ad (.lst (as.map V.ref ++ [V.ref r])) = H4 at hT4 s14
      have hfr4 : ∀ y, y ∈ as ++ [r] → H1 y = none := fun y hy => by
        rcases List.mem_append.mp hy with hy | hy
        · exact hfr y hy
        · rw [List.mem_singleton.mp hy]; exact s3.free nr
      have hal4 : (as ++ [r]).length = x + 1 := by simp [hal]
      have hax : (as ++ [r])[x]? = some r := by rw [List.getElem?_append_right (by omega), hal]; simp
      have hrA : r ≠ Ad := hT4.2.2.1 r (by simp)
      refine ⟨_, rfl, _, _, rfl, rfl, _, rfl, by omega, by omega, for_range (lo := 0) (fun y σ H' => ∃ y8 y9, σ = [some (.ref a), some (.ref b), some (.int (k : Int)), some (.int (c : Int)), some (.int (n : Int)), some (.ref z), some (.ref Ad), some (.int (x : Int)), y8, y9] ∧ Same H1 H' ∧ TbAt K H' Ad (as ++ [r]) (sm ss) (sm rs) n (fun j => if j < x then c + 1 else if j = x then y else 0)) ⟨_, _, rfl, s14, hT4.congr fun j hj => ?_⟩ ?_ ?_⟩
      · split <;> (try split) <;> omega
      · rintro y σ H5 hy ⟨y8, y9, rfl, s5, hT5⟩
        rw [ec] at hy
        have ey : (0 : Int) + ((y : Nat) : Int) = ((y : Nat) : Int) := by omega
        rw [ey]
        have atx : atI ((as ++ [r]).map V.ref) ((x : Nat) : Int) = some (.ref r) := atI_nat (by rw [List.getElem?_map, hax]; rfl)
        have fin : ∀ H6 t us, Same H5 H6 → H6 r = some (.lst us) → Dp K H6 (.ref t) (dTabO (lwb (sm ss) (sm rs) x y) n) → Same H1 (upd H6 r (.lst (us ++ [.ref t]))) ∧ TbAt K (upd H6 r (.lst (us ++ [.ref t]))) Ad (as ++ [r]) (sm ss) (sm rs) n (fun j => if j < x then c + 1 else if j = x then y + 1 else 0) := fun H6 t us s6 hu hD => by
          refine ⟨Same.mut (s5.trans s6) (hfr4 r (by simp)), ?_⟩
          have := (hT5.same s6).add (t := t) hax hu (by
            have e1 : (if x < x then c + 1 else if x = x then y else 0) = y := by rw [if_neg (by omega), if_pos rfl]
            rw [e1]; exact hD)
          refine this.congr fun j hj => ?_
          by_cases e : j = x
          · subst e
            rw [if_pos rfl, if_neg (by omega), if_pos rfl, if_neg (by omega), if_pos rfl]
          · rw [if_neg e, if_neg e, if_neg e]
        obtain ⟨us, hu, hA5⟩ := hT5.2.2.2 x r hax
        have hul := DpAll.len hA5
        rw [List.length_map, List.length_range] at hul
        dsimp only at hul
        rw [if_neg (by omega), if_pos rfl] at hul
        have putD : ∀ H6, Same H5 H6 → ∀ p, Dp K H6 (.ref p) (dTabO (lwb (sm ss) (sm rs) x y) n) → H6 r = some (.lst us) ∧ us.length < sizeLine := fun H6 s6 p _ => ⟨s6 _ _ hu, sz61 (by omega)⟩
        by_cases h0 : x = 0 ∨ y = 0
        · have eb : lwb (sm ss) (sm rs) x y = bare := by
            rcases h0 with h | h
            · rw [h]; exact bare_b0 _ _ _
            · rw [h]; exact bare_a0 _ _ _
          have body : ∀ H5', H5' = H5 → True := fun _ _ => trivial
          refine ⟨_, rfl, rfl, _, rfl, ?_⟩
          by_cases hx0 : x = 0
          · refine iteB1 (by simp [hx0]) (iteT ?_)
            refine ⟨.ref Ad, rfl, _, rfl, Ad, _, _, .ref r, rfl, rfl, .inl (.inl hT5.1), atx, .inl ⟨rfl, _, .inl (.inl hu)⟩, _, rfl, n, rfl, by omega, fun H6 p s6 hD => ?_⟩
            rw [← eb] at hD
            exact ⟨r, us, _, rfl, rfl, (putD H6 s6 p hD).1, (putD H6 s6 p hD).2, _, _, rfl, fin H6 p us s6 (s6 _ _ hu) hD⟩
          · refine iteB0 (by simp [hx0]) ⟨_, rfl, rfl, _, rfl, iteB1 (by simp; omega) ?_⟩
            refine ⟨.ref Ad, rfl, _, rfl, Ad, _, _, .ref r, rfl, rfl, .inl (.inl hT5.1), atx, .inl ⟨rfl, _, .inl (.inl hu)⟩, _, rfl, n, rfl, by omega, fun H6 p s6 hD => ?_⟩
            rw [← eb] at hD
            exact ⟨r, us, _, rfl, rfl, (putD H6 s6 p hD).1, (putD H6 s6 p hD).2, _, _, rfl, fin H6 p us s6 (s6 _ _ hu) hD⟩
        · obtain ⟨x', rfl⟩ : ∃ x', x = x' + 1 := ⟨x - 1, by omega⟩
          obtain ⟨y', rfl⟩ : ∃ y', y = y' + 1 := ⟨y - 1, by omega⟩
          refine ⟨_, rfl, rfl, _, rfl, iteB0 (by simp; omega) ⟨_, rfl, rfl, _, rfl, iteB0 (by simp; omega) ?_⟩⟩
          have ex1 : ((x' + 1 : Nat) : Int) - 1 = ((x' : Nat) : Int) := by omega
          have ey1 : ((y' + 1 : Nat) : Int) - 1 = ((y' : Nat) : Int) := by omega
          obtain ⟨r1, us1, t1, e1, e2, e3, hDl⟩ := hT5.rd (b := x' + 1) (a := y') (by omega) (by rw [if_neg (by omega), if_pos rfl]; omega)
          rw [hax] at e1
          cases e1
          rw [hu] at e2
          cases e2
          obtain ⟨r2, us2, t2, f1, f2, f3, hDr⟩ := hT5.rd (b := x') (a := y' + 1) (by omega) (by rw [if_pos (by omega)]; omega)
          refine ⟨.ref Ad, rfl, _, rfl, Ad, _, _, .ref r, rfl, rfl, .inl (.inl hT5.1), atx, .inl ⟨rfl, _, .inl (.inl hu)⟩, ?_⟩
          refine ⟨.ref Ad, rfl, _, rfl, Ad, _, _, .ref r, rfl, rfl, .inl (.inl hT5.1), atx, _, rfl, _, _, rfl, rfl, r, _, _, .ref t1, rfl, rfl, .inl (.inl hu), (by rw [ey1]; exact atI_nat e3), ?_⟩
          refine ⟨.ref Ad, rfl, _, rfl, _, _, rfl, rfl, Ad, _, _, .ref r2, rfl, rfl, .inl (.inl hT5.1), (by rw [ex1]; exact atI_nat (by rw [List.getElem?_map, f1]; rfl)), _, rfl, r2, _, _, .ref t2, rfl, rfl, .inl (.inl f2), atI_nat f3, ?_⟩
          refine ⟨_, rfl, _, rfl, .ref t1, .ref t2, .ref z, ss, rs, lwb (sm ss) (sm rs) (x' + 1) y', lwb (sm ss) (sm rs) x' (y' + 1), n, rfl, hZ.same s5, hn, by omega, by omega, hDl, hDr, fun H6 p s6 hD => ?_⟩
          rw [ovr_lwb] at hD
          exact ⟨r, us, _, rfl, rfl, (putD H6 s6 p hD).1, (putD H6 s6 p hD).2, _, _, rfl, fin H6 p us s6 (s6 _ _ hu) hD⟩
      · rintro σ H5 ⟨y8, y9, rfl, s5, hT5⟩
        rw [ec] at hT5
        refine ⟨_, _, _, as ++ [r], rfl, s5, hal4, hfr4, hT5.congr fun j hj => ?_⟩
        split <;> split <;> (try split) <;> omega
    · rintro σ H3 ⟨y7, y8, y9, as, rfl, s3, hal, hfr, hT3⟩
      rw [ek] at hal hT3
      refine ⟨.ref Ad, rfl, Ad, rfl, ⟨_, .inl (.inl hT3.1)⟩, fun D2 nD2 => ?_⟩
      refine lc_all (K := K) (walk_list (xs := as.map V.ref)) ((List.range (k + 1)).map (dRowG (sm ss) (sm rs) n (c + 1))) (by simp [hal]) (fun d h => by obtain ⟨i, _, rfl⟩ := List.mem_map.mp h; exact tf_rowG _ _ _ _ _) (by rw [List.length_map]; omega) nD2 (fun H' s' => s'.seq (.inl (.inl hT3.1))) ?_ ?_ (fun x σ' H' Q Q' h => h _ _) (fun σ' H' Q Q' h => h _ _)
      · rintro i x Hx Hx' hi sx ⟨rfl, hx⟩ d hd R hR
        rw [List.getElem?_map, Option.map_eq_some_iff] at hx
        obtain ⟨r, hr1, rfl⟩ := hx
        rw [List.length_map, hal] at hi
        rw [List.getElem?_map, List.getElem?_range hi] at hd
        cases hd
        obtain ⟨us, hu, hA5⟩ := hT3.2.2.2 i r hr1
        dsimp only at hA5
        rw [if_pos hi] at hA5
        refine ⟨rfl, rfl, .ref r, rfl, r, _, rfl, .inl ⟨.inl (.inl (sx _ _ hu)), fun l nl => hR _ _ (same_upd nl) (.tup (.inl (.inl upd_same)) (DpAll.same (sx.trans (same_upd nl)) hA5))⟩⟩
      · intro H5 acc s5 ha hA5
        refine ⟨D2, _, rfl, .inl ⟨.inl (.inl ha), fun o no => ?_⟩⟩
        exact q _ o (((s1.trans s3).trans s5).trans (same_upd no)) (.tup (.inl (.inl upd_same)) (DpAll.same (same_upd no) hA5))
end
section
variable {P : Program} {w : World} {K : PySem.W.Frag} {mg : Str → Option Value} {base : Heap}
def sp_check_budgets (K : PySem.W.Frag) : Sp := fun vs H Q _ => ∃ k c m : Int, vs = [.int k, .int c, .int m] ∧ 0 ≤ k ∧ k ≤ m ∧ 0 ≤ c ∧ c ≤ m ∧ ∀ H', Same H H' → Q .non H'
theorem ok_check_budgets (TX : Tx K mg) : FnOk P w K mg base CX0 4 TX.a_check_budgets TX.fd_check_budgets ["k", "c", "most"] (sp_check_budgets K) := by
  refine TX.f_check_budgets.ok sc_check_budgets (fun vs H Q E h => ?_) (fun cdv A outer s H vs Q E hr h => ?_)
  · obtain ⟨k, c, m, rfl, _⟩ := h; rfl
  · obtain ⟨k, c, m, rfl, k0, k1, c0, c1, q⟩ := h
    refine ⟨_, (pss_one (ps_for PassesOwn.never rfl (k_piT (K := K) rfl (pe_tup (pa_cons (pv 0) (pa_cons (pv 1) pa_nil)))) (pg_name (i := 3) sc_check_budgets.nd rfl (.inl rfl))
        (pss_one (ps_if (pt_not (pt_val (pe_call (ok_is_count_up_to TX) (hr.mono (by decide)) (by rfl) TX.g_is_count_up_to TX.f_is_count_up_to.kp TX.bd_is_count_up_to .nil pass0 (pa_cons (pv 3) (pa_cons (pv 2) pa_nil)))))
          (pss_one ps_never)
          pss_nil)))), ?_⟩
    refine ⟨_, rfl, _, rfl, sz60 (by simp), fun t nt => ⟨t, rfl, ⟨_, .inl (.inl upd_same)⟩, for_tup (K := K) (xs := [V.int k, V.int c]) (fun i σ H' => H' = upd H t (.tup [V.int k, V.int c]) ∧ ∃ y, σ = [some (.int k), some (.int c), some (.int m), y]) ⟨rfl, none, rfl⟩ (fun i σ H' _ h => by rw [h.1]; exact .inl (.inl upd_same)) ?_ ?_⟩⟩
    · rintro i x σ H' hx ⟨rfl, y, rfl⟩
      have hb : ∃ b : Int, x = .int b ∧ 0 ≤ b ∧ b ≤ m := by
        match i, hx with
        | 0, hx => cases hx; exact ⟨k, rfl, k0, k1⟩
        | 1, hx => cases hx; exact ⟨c, rfl, c0, c1⟩
        | i + 2, hx => simp at hx
      obtain ⟨b, rfl, b0, b1⟩ := hb
      exact ⟨_, rfl, _, rfl, _, _, rfl, true, by rw [decide_eq_true b0, decide_eq_true b1]; rfl, iteF ⟨rfl, _, rfl⟩⟩
    · rintro σ H' ⟨rfl, y, rfl⟩
      exact q _ (same_upd nt)
end
section
variable {P : Program} {w : World} {K : PySem.W.Frag} {mg : Str → Option Value} {base : Heap}
def sp_check_arguments (K : PySem.W.Frag) : Sp := fun vs H Q _ => ∃ (a b : Addr) (ss rs : List Int) (k c : Nat), vs = [.ref a, .ref b, .int (k : Int), .int (c : Int)] ∧ SqT K H a (ss.map V.int) ∧ SqT K H b (rs.map V.int) ∧ Lds ss ∧ Lds rs ∧ ss.length = rs.length ∧ ss.length ≤ 14 ∧ k ≤ 8 ∧ c ≤ 8 ∧ ∀ H', Same H H' → Q .non H'
theorem ok_check_arguments (TX : Tx K mg) : FnOk P w K mg base CX0 7 TX.a_check_arguments TX.fd_check_arguments ["sizes", "reads", "k", "c"] (sp_check_arguments K) := by
  refine TX.f_check_arguments.ok sc_check_arguments (fun vs H Q E h => ?_) (fun cdv A outer s H vs Q E hr h => ?_)
  · obtain ⟨a, b, ss, rs, k, c, rfl, _⟩ := h; rfl
  · obtain ⟨a, b, ss, rs, k, c, rfl, hA, hB, hs, hr', he, h1, hk, hc, q⟩ := h
    refine ⟨_, (pss_cons (ps_expr (pe_call (ok_check_loads TX) (hr.mono (by decide)) (by rfl) TX.g_check_loads TX.f_check_loads.kp TX.bd_check_loads .nil pass0 (pa_cons (pv 0) (pa_cons (pv 1) (pa_cons (pe_glob (v := .int (14)) (by rfl) TX.c_MOST_BOUNDED_FLUSHES ⟨_, rfl⟩) pa_nil)))))
      (pss_one (ps_expr (pe_call (ok_check_budgets TX) (hr.mono (by decide)) (by rfl) TX.g_check_budgets TX.f_check_budgets.kp TX.bd_check_budgets .nil pass0 (pa_cons (pv 2) (pa_cons (pv 3) (pa_cons (pe_glob (v := .int (8)) (by rfl) TX.c_MOST_BOUNDED_BUDGET ⟨_, rfl⟩) pa_nil))))))), ?_⟩
    refine ⟨.ref a, rfl, .ref b, rfl, a, b, ss, rs, 14, rfl, hA, hB, hs, hr', he, by omega, by omega, fun H1 s1 => ?_⟩
    exact ⟨_, rfl, _, rfl, _, _, _, rfl, by omega, by omega, by omega, by omega, fun H2 s2 => q _ (s1.trans s2)⟩
def sp_table_within (K : PySem.W.Frag) : Sp := fun vs H Q _ => ∃ (a b : Addr) (ss rs : List Int) (k c : Nat), vs = [.ref a, .ref b, .int (k : Int), .int (c : Int)] ∧ SqT K H a (ss.map V.int) ∧ SqT K H b (rs.map V.int) ∧ Lds ss ∧ Lds rs ∧ ss.length = rs.length ∧ ss.length ≤ 14 ∧ k ≤ 8 ∧ c ≤ 8 ∧
  ∀ H' p, Same H H' → Dp K H' (.ref p) (dGrid (sm ss) (sm rs) ss.length k c) → Q (.ref p) H'
theorem ok_table_within (TX : Tx K mg) : FnOk P w K mg base CX0 8 TX.a_table_within TX.fd_table_within ["sizes", "reads", "k", "c"] (sp_table_within K) := by
  refine TX.f_table_within.ok sc_table_within (fun vs H Q E h => ?_) (fun cdv A outer s H vs Q E hr h => ?_)
  · obtain ⟨a, b, ss, rs, k, c, rfl, _⟩ := h; rfl
  · obtain ⟨a, b, ss, rs, k, c, rfl, hA, hB, hs, hr', he, h1, hk, hc, q⟩ := h
    refine ⟨_, (pss_cons (ps_expr (pe_call (ok_check_arguments TX) (hr.mono (by decide)) (by rfl) TX.g_check_arguments TX.f_check_arguments.kp TX.bd_check_arguments .nil pass0 (pa_cons (pv 0) (pa_cons (pv 1) (pa_cons (pv 2) (pa_cons (pv 3) pa_nil))))))
      (pss_one (ps_ret (pe_call (ok_least_tables TX) (hr.mono (by decide)) (by rfl) TX.g_least_tables TX.f_least_tables.kp TX.bd_least_tables .nil pass0 (pa_cons (pv 0) (pa_cons (pv 1) (pa_cons (pv 2) (pa_cons (pv 3) pa_nil)))))))), ?_⟩
    refine ⟨.ref a, rfl, .ref b, rfl, _, rfl, _, rfl, a, b, ss, rs, k, c, rfl, hA, hB, hs, hr', he, h1, hk, hc, fun H1 s1 => ?_⟩
    exact ⟨.ref a, rfl, .ref b, rfl, _, rfl, _, rfl, a, b, ss, rs, k, c, rfl, Same.tup s1 hA, Same.tup s1 hB, he, by omega, by omega, by omega, fun H2 p s2 hD => q _ p (s1.trans s2) hD⟩
end
section
variable {P : Program} {w : World} {K : PySem.W.Frag} {mg : Str → Option Value} {base : Heap}
theorem min_nat (a b : Nat) : (if (b : Int) < (a : Int) then (b : Int) else (a : Int)) = ((min a b : Nat) : Int) := by
  by_cases h : b < a
  · rw [if_pos (by omega), Nat.min_eq_right (by omega)]
  · rw [if_neg (by omega), Nat.min_eq_left (by omega)]
theorem max_nat (a b : Nat) : (if (b : Int) > (a : Int) then (b : Int) else (a : Int)) = ((max a b : Nat) : Int) := by
  by_cases h : b > a
  · rw [if_pos (by omega), Nat.max_eq_right (by omega)]
  · rw [if_neg (by omega), Nat.max_eq_left (by omega)]
theorem bin_turn {n j : Nat} (h : j < n) : (bin n j : Int) * ((n : Int) - (j : Int)) / ((j : Int) + 1) = (bin n (j + 1) : Int) := by
  rw [← bin_div (n := n) (j := j) (by omega)]
  have e : ((n : Int) - (j : Int)) = ((n - j : Nat) : Int) := by omega
  rw [e]; norm_cast
def sp_choose (K : PySem.W.Frag) : Sp := fun vs H Q _ => ∃ n k : Nat, vs = [.int (n : Int), .int (k : Int)] ∧ k ≤ n ∧ k ≤ 64 ∧ n < 2 ^ 64 ∧ Q (.int (bin n k : Int)) H
theorem ok_choose (TX : Tx K mg) : FnOk P w K mg base CX0 1 TX.a_choose TX.fd_choose ["n", "k"] (sp_choose K) := by
  refine TX.f_choose.ok sc_choose (fun vs H Q E h => ?_) (fun cdv A outer s H vs Q E hr h => ?_)
  · obtain ⟨n, k, rfl, _⟩ := h; rfl
  · obtain ⟨n, k, rfl, hk, hk2, hn, q⟩ := h
    refine ⟨_, (pss_cons (ps_set (i := 2) sc_choose.nd rfl (.inl rfl) pe_int)
      (pss_cons (ps_for PassesOwn.never rfl (pi_range2 (by rfl) TX.b_range (pa_cons pe_int (pa_cons (pe_op op_add (pe_callB (id := "min") (call_min2 rfl) (by rfl) TX.b_min (by decide +kernel) (pa_cons (pv 1) (pa_cons (pe_op op_sub (pv 0) (pv 1)) pa_nil))) pe_int) pa_nil))) (pg_name (i := 3) sc_choose.nd rfl (.inl rfl))
        (pss_one (ps_set (i := 2) sc_choose.nd rfl (.inl rfl) (pe_op op_fdivW (pe_op op_mulW (pv 2) (pe_op op_sub (pe_op op_add (pv 0) pe_int) (pv 3))) (pv 3)))))
      (pss_one (ps_ret (pv 2))))), ?_⟩
    refine ⟨_, rfl, _, rfl, _, rfl, _, _, rfl, rfl, _, _, rfl, _, _, rfl, rfl, _, _, rfl, ?_⟩
    have em : (if (n : Int) - (k : Int) < (k : Int) then (n : Int) - (k : Int) else (k : Int)) = ((min k (n - k) : Nat) : Int) := by
      have := min_nat k (n - k)
      rwa [show ((n - k : Nat) : Int) = (n : Int) - (k : Int) by omega] at this
    rw [em]
    have hm1 : min k (n - k) ≤ 64 := by omega
    have hm2 : min k (n - k) ≤ n := by omega
    rw [← bin_min hk] at q
    generalize min k (n - k) = m at hm1 hm2 q
    refine ⟨⟨by decide, by decide, by omega, by omega⟩, for_range (lo := 1) (n := (((m : Nat) : Int) + 1 - 1).toNat) (fun i σ H' => H' = H ∧ ∃ y, σ = [some (.int (n : Int)), some (.int (k : Int)), some (.int (bin n i : Int)), y]) ⟨rfl, none, by rw [bin_zero]; rfl⟩ ?_ ?_⟩
    · rintro i σ H' hi ⟨rfl, y, rfl⟩
      refine ⟨_, rfl, _, rfl, _, _, rfl, rfl, _, rfl, _, _, rfl, rfl, _, _, rfl, rfl, ?_, _, rfl, _, _, rfl, rfl, ?_, rfl, some (.int (1 + (i : Int))), ?_⟩
      · have := bin_bits (n := n) (k := i) hn (by omega)
        exact wide_mul (a := 4097) (b := 65) (by omega) (by omega) (by decide) (by decide) (by decide)
      · exact wide_div (b := 8) (by omega) (by omega) (by decide) (by decide)
      · have e1 : (n : Int) + 1 - (1 + (i : Int)) = (n : Int) - (i : Int) := by omega
        have e2 : (1 + (i : Int)) = (i : Int) + 1 := by omega
        show [_, _, _, _] = [_, _, _, _]
        simp only [List.cons.injEq, Option.some.injEq, V.int.injEq, and_true, true_and]
        rw [e1, e2]
        exact bin_turn (by omega)
    · rintro σ H' ⟨rfl, y, rfl⟩
      refine ⟨_, rfl, ?_⟩
      rw [show (((m : Nat) : Int) + 1 - 1).toNat = m by omega]
      exact q
end
/-- the draws' list: a number not below 0, a seed, a count of at most n -/
def Pot (H : Hp) (a : Addr) (n : Int) : Prop := ∃ d s m : Int, H a = some (.lst [.int d, .int s, .int m]) ∧ 0 ≤ d ∧ 0 ≤ s ∧ s < 2 ^ 62 ∧ 0 ≤ m ∧ m ≤ n
theorem Pot.mono {H : Hp} {a : Addr} {n k : Int} (h : Pot H a n) (e : n ≤ k) : Pot H a k := by
  obtain ⟨d, s, m, h1, h2, h3, h4, h5, h6⟩ := h
  exact ⟨d, s, m, h1, h2, h3, h4, h5, by omega⟩
theorem Pot.same {H H' : Hp} {a : Addr} {n : Int} (h : Pot H a n) (e : Same H H') : Pot H' a n := by
  obtain ⟨d, s, m, h1, r⟩ := h
  exact ⟨d, s, m, e _ _ h1, r⟩
theorem Pot.keep {K : PySem.W.Frag} {H H' : Hp} {a : Addr} {n : Int} (h : Pot H a n) (e : But a H H') : Keep K H H' := by
  obtain ⟨d, s, m, h1, r⟩ := h
  exact But.keep e h1
theorem Pot.ne {H : Hp} {a b : Addr} {n : Int} (h : Pot H a n) (e : H b = none) : b ≠ a := fun z => by
  obtain ⟨d, s, m, h1, r⟩ := h
  rw [z, h1] at e; cases e
theorem Pot.upd {H : Hp} {a l : Addr} {n : Int} {o : HO} (h : Pot H a n) (e : l ≠ a) : Pot (L2.upd H l o) a n := by
  obtain ⟨d, s, m, h1, r⟩ := h
  exact ⟨d, s, m, by rw [upd_ne e.symm]; exact h1, r⟩
theorem But.mut {a l : Addr} {H H' : Hp} {o : HO} (b : But a H H') (h : H l = none) : But a H (L2.upd H' l o) := fun c u n e => by
  rw [upd_ne (ne_of_none e h)]; exact b _ _ n e
theorem na_lt {x : Int} {n : Nat} (h0 : 0 ≤ x) (h1 : x < ((2 ^ n : Nat) : Int)) : x.natAbs < 2 ^ n := by omega
theorem bit01 (b : Bool) : (if b = true then (1 : Int) else 0).natAbs < 2 ^ 2 ∧ (0 : Int) ≤ (if b = true then (1 : Int) else 0) := by cases b <;> exact ⟨by decide, by decide⟩
set_option exponentiation.threshold 2000
section
variable {P : Program} {w : World} {K : PySem.W.Frag} {mg : Str → Option Value} {base : Heap}
def sp_L_pot (K : PySem.W.Frag) : Sp := fun vs H Q _ => ∃ (a : Addr) (ns : List Int) (pl : Nat), vs = [.ref a, .int (pl : Int)] ∧ SqL K H a (ns.map V.int) ∧ pl ≤ 62 ∧ ∀ H' p, Same H H' → H p = none → Pot H' p 0 → Q (.ref p) H'
theorem ok_L_pot (TX : Tx K mg) : FnOk P w K mg base CX0 1 TX.a_L_pot TX.fd_L_pot ["_law_script", "_law_k"] (sp_L_pot K) := by
  refine TX.f_L_pot.ok sc_L_pot (fun vs H Q E h => ?_) (fun cdv A outer s H vs Q E hr h => ?_)
  · obtain ⟨a, ns, pl, rfl, _⟩ := h; rfl
  · obtain ⟨a, ns, pl, rfl, hS, hpl, q⟩ := h
    refine ⟨_, (pss_cut (ps_set (i := 2) sc_L_pot.nd rfl (.inl rfl) (pe_ifExp (pt_cmpR op_lt (pv 1) (pe_callB (id := "len") (k_len (K := K) rfl) (by rfl) TX.b_len (by decide +kernel) (pa_cons (pv 0) pa_nil)) (nomark _)) (pe_ix (k_ixL (K := K) rfl) (pv 0) (pv 1) (fun _ _ => rfl)) pe_int))
      (pss_cons (ps_set (i := 3) sc_L_pot.nd rfl (.inl rfl) (pe_op op_mulW (pe_op op_mulW (pe_op op_mulW (pe_op op_mulW (pe_op op_powW pe_int pe_int) (pe_op op_powW pe_int pe_int)) (pe_op op_powW pe_int pe_int)) (pe_op op_powW pe_int pe_int)) (pe_op op_powW pe_int pe_int)))
      (pss_one (ps_ret (pe_lst (pa_cons (pe_op op_mulW (pe_op op_mod (pe_callB (id := "abs") call_abs (by rfl) TX.b_abs (by decide +kernel) (pa_cons (pv 2) pa_nil)) (pv 3)) (pe_callTy (T := "int") call_int1 (by rfl) TX.b_int (by decide +kernel) (pa_cons (pe_cmpR op_ge (pe_callB (id := "abs") call_abs (by rfl) TX.b_abs (by decide +kernel) (pa_cons (pv 2) pa_nil)) (pe_op op_powW pe_int pe_int) (nomark _)) pa_nil))) (pa_cons (pe_op op_add (pe_op op_add (pe_op op_mod (pv 2) pe_int) (pe_op op_mulW pe_int (pv 1))) pe_int) (pa_cons pe_int pa_nil)))))))), ?_⟩
    refine ⟨fun σ H' => ∃ x : Int, σ = [some (.ref a), some (.int (pl : Int)), some (.int x), none] ∧ H' = H, ?_, ?_⟩
    · refine ⟨_, rfl, .ref a, rfl, a, _, rfl, .inl hS, _, _, rfl, rfl, _, rfl, ?_⟩
      refine ite2 (fun h => ?_) (fun h => ?_)
      · have hlt : pl < ns.length := by
          have := of_decide_eq_true h
          rw [List.length_map] at this
          omega
        exact ⟨.ref a, rfl, _, rfl, a, _, _, .int ns[pl], rfl, rfl, hS, atI_nat (by rw [List.getElem?_map, List.getElem?_eq_getElem hlt]; rfl), _, rfl, rfl⟩
      · exact ⟨_, rfl, rfl⟩
    · rintro σ H' ⟨x, rfl, rfl⟩
      have pw : CPowW 10 60 := ⟨by decide, by decide +kernel⟩
      have pb : (10 ^ (60 : Int).toNat : Int).natAbs < 2 ^ 200 := by decide +kernel
      have c2 := wide_lt pb pb
      have c3 := wide_lt c2 pb
      have c4 := wide_lt c3 pb
      refine ⟨_, _, rfl, rfl, pw, _, _, rfl, rfl, pw, _, _, rfl, rfl, wide_mul pb pb (by decide) (by decide) (by decide), _, _, rfl, rfl, pw, _, _, rfl, rfl, wide_mul c2 pb (by decide) (by decide) (by decide), _, _, rfl, rfl, pw, _, _, rfl, rfl, wide_mul c3 pb (by decide) (by decide) (by decide), _, _, rfl, rfl, pw, _, _, rfl, rfl, wide_mul c4 pb (by decide) (by decide) (by decide), ?_⟩
      have P0 : (0 : Int) < 10 ^ (60 : Int).toNat * 10 ^ (60 : Int).toNat * 10 ^ (60 : Int).toNat * 10 ^ (60 : Int).toNat * 10 ^ (60 : Int).toNat := by decide +kernel
      have P1 : (10 ^ (60 : Int).toNat * 10 ^ (60 : Int).toNat * 10 ^ (60 : Int).toNat * 10 ^ (60 : Int).toNat * 10 ^ (60 : Int).toNat : Int) < ((2 ^ 1000 : Nat) : Int) := by decide +kernel
      have c0 := Int.emod_nonneg x (show (2305843009213693951 : Int) ≠ 0 by decide)
      have c1 := Int.emod_lt_of_pos x (show (0 : Int) < 2305843009213693951 by decide)
      refine ⟨_, rfl, _, rfl, _, rfl, _, _, rfl, rfl, P0, _, rfl, _, rfl, _, _, rfl, rfl, ⟨by decide, by decide +kernel⟩, _, _, rfl, rfl, .inr ⟨_, rfl, _, _, rfl, rfl, ?_, ?_⟩⟩
      · exact wide_mul (a := 1000) (b := 2) (na_lt (Int.emod_nonneg _ (Int.ne_of_gt P0)) (Int.lt_trans (Int.emod_lt_of_pos _ P0) P1)) (bit01 _).1 (by decide) (by decide) (by decide)
      · refine ⟨_, rfl, _, _, rfl, rfl, (show (0 : Int) < 2305843009213693951 by decide), _, rfl, _, _, rfl, rfl, wide_mul (a := 17) (b := 7) (by decide) (by omega) (by decide) (by decide) (by decide), _, _, rfl, rfl, _, _, rfl, rfl, sz60 (by simp), fun p np => q _ p (same_upd np) np ?_⟩
        refine ⟨_, _, _, upd_same, ?_, by omega, by omega, by decide, by decide⟩
        exact Int.mul_nonneg (Int.emod_nonneg _ (Int.ne_of_gt P0)) (bit01 _).2
def sp_L_take (K : PySem.W.Frag) : Sp := fun vs H Q _ => ∃ (a : Addr) (z n : Int), vs = [.ref a, .int z] ∧ Pot H a n ∧ n ≤ 1000000 ∧ 1 ≤ z ∧ z ≤ 2000000000 ∧ ∀ H' r, But a H H' → Pot H' a (n + 1) → 0 ≤ r → r < z → Q (.int r) H'
theorem prime_at {m : Int} (h0 : 0 ≤ m) : ∃ v : Int, atI [V.int 2147483647, V.int 2147483629, V.int 2147483587, V.int 2147483579, V.int 2147483563, V.int 2147483549, V.int 2147483543, V.int 2147483497] (m % 8) = some (.int v) ∧ 0 < v ∧ v < 2 ^ 31 := by
  have h : m % 8 = 0 ∨ m % 8 = 1 ∨ m % 8 = 2 ∨ m % 8 = 3 ∨ m % 8 = 4 ∨ m % 8 = 5 ∨ m % 8 = 6 ∨ m % 8 = 7 := by omega
  rcases h with h | h | h | h | h | h | h | h <;> rw [h] <;> exact ⟨_, rfl, by decide, by decide⟩
theorem ok_L_take (TX : Tx K mg) : FnOk P w K mg base CX0 1 TX.a_L_take TX.fd_L_take ["_law_pot_here", "_law_wide"] (sp_L_take K) := by
  refine TX.f_L_take.ok sc_L_take (fun vs H Q E h => ?_) (fun cdv A outer s H vs Q E hr h => ?_)
  · obtain ⟨a, z, n, rfl, _⟩ := h; rfl
  · obtain ⟨a, z, n, rfl, ⟨d, sd, m, hp, hd, hs0, hs1, hm0, hm1⟩, hn, hz1, hz2, q⟩ := h
    refine ⟨_, (pss_cons (ps_if (pt_cmpR op_gt (pe_ix (k_ixL (K := K) rfl) (pv 0) pe_int (fun _ _ => rfl)) pe_int (nomark _))
        (pss_cons (ps_set (i := 2) sc_L_take.nd rfl (.inl rfl) (pe_op op_mod (pe_ix (k_ixL (K := K) rfl) (pv 0) pe_int (fun _ _ => rfl)) (pv 1)))
        (pss_cons (ps_asg (pe_op op_fdivW (pe_ix (k_ixL (K := K) rfl) (pv 0) pe_int (fun _ _ => rfl)) (pv 1)) (pg_sub (pv 0) pe_int set_list))
        (pss_one (ps_ret (pv 2)))))
        pss_nil)
      (pss_cons (ps_asg (pe_op op_add (pe_ix (k_ixL (K := K) rfl) (pv 0) pe_int (fun _ _ => rfl)) pe_int) (pg_sub (pv 0) pe_int set_list))
      (pss_cons (ps_set (i := 3) sc_L_take.nd rfl (.inl rfl) (pe_lst (pa_cons pe_int (pa_cons pe_int (pa_cons pe_int (pa_cons pe_int (pa_cons pe_int (pa_cons pe_int (pa_cons pe_int (pa_cons pe_int pa_nil))))))))))
      (pss_cons (ps_set (i := 4) sc_L_take.nd rfl (.inl rfl) (pe_ix (k_ixL (K := K) rfl) (pv 3) (pe_op op_mod (pe_ix (k_ixL (K := K) rfl) (pv 0) pe_int (fun _ _ => rfl)) pe_int) (fun _ _ => rfl)))
      (pss_cons (ps_set (i := 5) sc_L_take.nd rfl (.inl rfl) (pe_op op_add (pe_op op_mod (pe_op op_mod (pe_op op_add (pe_ix (k_ixL (K := K) rfl) (pv 0) pe_int (fun _ _ => rfl)) (pe_op op_mulW (pe_op op_mulW pe_int (pe_ix (k_ixL (K := K) rfl) (pv 0) pe_int (fun _ _ => rfl))) (pe_ix (k_ixL (K := K) rfl) (pv 0) pe_int (fun _ _ => rfl)))) (pe_op op_pow (pv 4) pe_int)) (pv 4)) pe_int))
      (pss_one (ps_ret (pe_op op_mod (pe_op op_fdivW (pe_op op_mod (pe_op op_mulW (pv 5) (pe_op op_add (pe_op op_mod (pv 5) pe_int) (pe_ix (k_ixL (K := K) rfl) (pv 0) pe_int (fun _ _ => rfl)))) (pv 4)) pe_int) (pv 1))))))))), ?_⟩
    refine ⟨.ref a, rfl, a, _, _, .int d, rfl, rfl, .inl (.inl hp), rfl, _, _, rfl, rfl, _, rfl, ite2 (fun h => ?_) (fun h => ?_)⟩
    · refine ⟨.ref a, rfl, a, _, _, .int d, rfl, rfl, .inl (.inl hp), rfl, _, rfl, _, _, rfl, rfl, (show 0 < z by omega), ?_⟩
      refine ⟨.ref a, rfl, a, _, _, .int d, rfl, rfl, .inl (.inl hp), rfl, _, rfl, _, _, rfl, rfl, wide_div (b := 32) (by omega) (by omega) (by decide) (by decide), .ref a, rfl, a, _, 0, 0, rfl, rfl, hp, rfl, ?_⟩
      refine ⟨_, rfl, q _ _ But.upd ⟨d / z, sd, m, upd_same, Int.ediv_nonneg hd (by omega), hs0, hs1, hm0, by omega⟩ (Int.emod_nonneg _ (by omega)) (Int.emod_lt_of_pos _ (by omega))⟩
    · refine ⟨.ref a, rfl, a, _, _, .int m, rfl, rfl, .inl (.inl hp), rfl, _, _, rfl, rfl, ?_⟩
      refine ⟨.ref a, rfl, a, _, 2, 2, rfl, rfl, hp, rfl, ?_⟩
      have hp1 : (upd H a (.lst (List.set [V.int d, V.int sd, V.int m] 2 (V.int (m + 1))))) a = some (.lst [V.int d, V.int sd, V.int (m + 1)]) := upd_same
      have b1 : But a H (upd H a (.lst (List.set [V.int d, V.int sd, V.int m] 2 (V.int (m + 1))))) := But.upd
      generalize upd H a (.lst (List.set [V.int d, V.int sd, V.int m] 2 (V.int (m + 1)))) = H1 at hp1 b1 ⊢
      refine ⟨sz60 (by simp), fun pl npl => ?_⟩
      have s2 := same_upd (o := .lst [V.int 2147483647, V.int 2147483629, V.int 2147483587, V.int 2147483579, V.int 2147483563, V.int 2147483549, V.int 2147483543, V.int 2147483497]) npl
      have hp2 := s2 _ _ hp1
      obtain ⟨pr, hpr, pr0, pr1⟩ := prime_at (m := m + 1) (by omega)
      refine ⟨_, rfl, .ref a, rfl, a, _, _, .int (m + 1), rfl, rfl, .inl (.inl hp2), rfl, _, _, rfl, rfl, (show (0 : Int) < 8 by decide), pl, _, _, .int pr, rfl, rfl, .inl (.inl upd_same), hpr, ?_⟩
      have k1 : (m + 1) * (m + 1) ≤ 1000001 * 1000001 := Int.mul_le_mul (by omega) (by omega) (by omega) (by omega)
      have k2 : (0 : Int) ≤ (m + 1) * (m + 1) := Int.mul_nonneg (by omega) (by omega)
      have k3 : 69621 * (m + 1) * (m + 1) = 69621 * ((m + 1) * (m + 1)) := Int.mul_assoc _ _ _
      have p2 : (0 : Int) < pr ^ (2 : Int).toNat := Int.pow_pos pr0
      refine ⟨.ref a, rfl, a, _, _, .int sd, rfl, rfl, .inl (.inl hp2), rfl, .ref a, rfl, a, _, _, .int (m + 1), rfl, rfl, .inl (.inl hp2), rfl, _, _, rfl, rfl, wide_mul (a := 17) (b := 21) (by decide) (by omega) (by decide) (by decide) (by decide), .ref a, rfl, a, _, _, .int (m + 1), rfl, rfl, .inl (.inl hp2), rfl, _, _, rfl, rfl, wide_mul (a := 38) (b := 21) (by omega) (by omega) (by decide) (by decide) (by decide), _, _, rfl, rfl, _, rfl, _, _, rfl, rfl, ⟨by decide, by decide, by omega⟩, _, _, rfl, rfl, p2, _, rfl, _, _, rfl, rfl, pr0, _, _, rfl, rfl, ?_⟩
      generalize hmx : (sd + 69621 * (m + 1) * (m + 1)) % pr ^ (2 : Int).toNat % pr = mx
      have mx0 : 0 ≤ mx := by rw [← hmx]; exact Int.emod_nonneg _ (by omega)
      have mx1 : mx < pr := by rw [← hmx]; exact Int.emod_lt_of_pos _ pr0
      refine ⟨_, rfl, _, rfl, _, _, rfl, rfl, (show (0 : Int) < 1009 by decide), .ref a, rfl, a, _, _, .int (m + 1), rfl, rfl, .inl (.inl hp2), rfl, _, _, rfl, rfl, _, _, rfl, rfl, wide_mul (a := 32) (b := 22) (by omega) (by omega) (by decide) (by decide) (by decide), _, rfl, _, _, rfl, rfl, pr0, _, _, rfl, rfl, wide_div (b := 3) (by decide) (by decide) (by decide) (by decide), _, rfl, _, _, rfl, rfl, (show 0 < z by omega), ?_⟩
      exact q _ _ (b1.trans (But.of s2)) ⟨d, sd, m + 1, hp2, hd, hs0, hs1, by omega, by omega⟩ (Int.emod_nonneg _ (by omega)) (Int.emod_lt_of_pos _ (by omega))
def sp_L_of (K : PySem.W.Frag) : Sp := fun vs H Q _ => ∃ (a l : Addr) (xs : List V) (n : Int), vs = [.ref a, .ref l] ∧ Pot H a n ∧ n ≤ 1000000 ∧ H l = some (.lst xs) ∧ l ≠ a ∧ xs ≠ [] ∧ xs.length ≤ 1000 ∧ ∀ H' v, But a H H' → Pot H' a (n + 1) → v ∈ xs → Q v H'
theorem ok_L_of (TX : Tx K mg) : FnOk P w K mg base CX0 2 TX.a_L_of TX.fd_L_of ["_law_pot_here", "_law_some"] (sp_L_of K) := by
  refine TX.f_L_of.ok sc_L_of (fun vs H Q E h => ?_) (fun cdv A outer s H vs Q E hr h => ?_)
  · obtain ⟨a, l, xs, n, rfl, _⟩ := h; rfl
  · obtain ⟨a, l, xs, n, rfl, hp, hn, hl, nla, hne, hlen, q⟩ := h
    refine ⟨_, (pss_one (ps_ret (pe_ix (k_ixL (K := K) rfl) (pv 1) (pe_call (ok_L_take TX) (hr.mono (by decide)) (by rfl) TX.g_L_take TX.f_L_take.kp TX.bd_L_take .nil pass0 (pa_cons (pv 0) (pa_cons (pe_callB (id := "len") (k_len (K := K) rfl) (by rfl) TX.b_len (by decide +kernel) (pa_cons (pv 1) pa_nil)) pa_nil))) (fun _ _ => rfl)))), ?_⟩
    have h0 : 0 < xs.length := List.length_pos_iff.mpr hne
    refine ⟨.ref l, rfl, .ref a, rfl, .ref l, rfl, l, _, rfl, .inl (.inl (.inl hl)), a, _, n, rfl, hp, hn, by omega, by omega, fun H' r b1 p1 r0 r1 => ?_⟩
    have er : r = ((r.toNat : Nat) : Int) := by omega
    have hr1 : r.toNat < xs.length := by omega
    have hat : atI xs r = some xs[r.toNat] := by
      have := atI_nat (List.getElem?_eq_getElem hr1)
      rwa [← er] at this
    exact ⟨l, xs, r, xs[r.toNat], rfl, rfl, .inl (.inl (b1 _ _ nla hl)), hat, q _ _ b1 p1 (List.getElem_mem ..)⟩
end
theorem But.free {a l : Addr} {H H' : Hp} (b : But a H H') (h : H' l = none) (n : l ≠ a) : H l = none := by
  cases e : H l with
  | none => rfl
  | some o => rw [b _ _ n e] at h; cases h
theorem at_mem {xs : List V} {r : Int} (r0 : 0 ≤ r) (r1 : r < (xs.length : Int)) : ∃ v, atI xs r = some v ∧ v ∈ xs := by
  have er : r = ((r.toNat : Nat) : Int) := by omega
  have hr1 : r.toNat < xs.length := by omega
  refine ⟨xs[r.toNat], ?_, List.getElem_mem ..⟩
  have := atI_nat (List.getElem?_eq_getElem hr1)
  rwa [← er] at this
section
variable {P : Program} {w : World} {K : PySem.W.Frag} {mg : Str → Option Value} {base : Heap}
def sp_L_load (K : PySem.W.Frag) : Sp := fun vs H Q _ => ∃ (a : Addr) (k : Nat) (wd n : Int), vs = [.ref a, .int (k : Int), .int wd] ∧ Pot H a n ∧ n ≤ 900000 ∧ k ≤ 100 ∧ 1 ≤ wd ∧ wd ≤ 1000000000 ∧
  ∀ H' p (ns : List Int), But a H H' → Pot H' a (n + 402) → ns.length = k → (∀ x, x ∈ ns → 0 ≤ x ∧ (x ≤ wd ∨ x ≤ 3)) → SqT K H' p (ns.map V.int) → Q (.ref p) H'
theorem ok_L_load (TX : Tx K mg) : FnOk P w K mg base CX0 3 TX.a_L_load TX.fd_L_load ["_law_pot_here", "_law_count", "_law_wide"] (sp_L_load K) := by
  refine TX.f_L_load.ok sc_L_load (fun vs H Q E h => ?_) (fun cdv A outer s H vs Q E hr h => ?_)
  · obtain ⟨a, k, wd, n, rfl, _⟩ := h; rfl
  · obtain ⟨a, k, wd, n, rfl, hp, hn, hk, hw1, hw2, q⟩ := h
    refine ⟨_, (pss_cons (ps_par (i := 3) (j := 4) (by rfl) sc_L_load.nd rfl rfl (by decide) rfl rfl (pa_cons (pe_call (ok_L_take TX) (hr.mono (by decide)) (by rfl) TX.g_L_take TX.f_L_take.kp TX.bd_L_take .nil pass0 (pa_cons (pv 0) (pa_cons pe_int pa_nil))) (pa_cons (pe_call (ok_L_take TX) (hr.mono (by decide)) (by rfl) TX.g_L_take TX.f_L_take.kp TX.bd_L_take .nil pass0 (pa_cons (pv 0) (pa_cons (pe_op op_add (pv 2) pe_int) pa_nil))) pa_nil)) (by rfl))
      (pss_cons (ps_set (i := 5) sc_L_load.nd rfl (.inl rfl) (pe_lst pa_nil))
      (pss_cons (ps_for PassesOwn.never rfl (pi_range1 (by rfl) TX.b_range (pa_cons (pv 1) pa_nil)) (pg_name (i := 6) sc_L_load.nd rfl (.inl rfl))
        (pss_cons (ps_set (i := 7) sc_L_load.nd rfl (.inl rfl) (pe_lst (pa_cons pe_int (pa_cons (pv 4) (pa_cons (pe_call (ok_L_take TX) (hr.mono (by decide)) (by rfl) TX.g_L_take TX.f_L_take.kp TX.bd_L_take .nil pass0 (pa_cons (pv 0) (pa_cons pe_int pa_nil))) (pa_cons (pe_op op_sub (pv 2) (pe_call (ok_L_take TX) (hr.mono (by decide)) (by rfl) TX.g_L_take TX.f_L_take.kp TX.bd_L_take .nil pass0 (pa_cons (pv 0) (pa_cons (pe_callB (id := "min") (call_min2 rfl) (by rfl) TX.b_min (by decide +kernel) (pa_cons (pv 2) (pa_cons pe_int pa_nil))) pa_nil)))) (pa_cons (pe_call (ok_L_of TX) (hr.mono (by decide)) (by rfl) TX.g_L_of TX.f_L_of.kp TX.bd_L_of .nil pass0 (pa_cons (pv 0) (pa_cons (pe_lst (pa_cons pe_int (pa_cons pe_int (pa_cons pe_int (pa_cons (pv 2) pa_nil))))) pa_nil))) (pa_cons pe_int pa_nil))))))))
        (pss_one (ps_expr (pe_bm PySem.F.plainAttrs_list PySem.F.slot_list_append PySem.F.type_list_append mt_append (pv 5) (pa_cons (pe_ifExp (pt_cmpR op_lt (pv 3) pe_int (nomark _)) (pe_ix (k_ixL (K := K) rfl) (pv 7) (pv 3) (fun _ _ => rfl)) (pe_call (ok_L_take TX) (hr.mono (by decide)) (by rfl) TX.g_L_take TX.f_L_take.kp TX.bd_L_take .nil pass0 (pa_cons (pv 0) (pa_cons (pe_op op_add (pv 2) pe_int) pa_nil)))) pa_nil))))))
      (pss_one (ps_ret (pe_callTy (T := "tuple") (k_tupOf (K := K) rfl) (by rfl) TX.b_tuple (by decide +kernel) (pa_cons (pv 5) pa_nil))))))), ?_⟩
    refine ⟨.ref a, rfl, a, 6, n, rfl, hp, by omega, by decide, by decide, fun H1 sy b1 p1 y0 y1 => ?_⟩
    refine ⟨.ref a, rfl, _, rfl, _, _, rfl, rfl, a, wd + 1, _, rfl, p1, by omega, by omega, by omega, fun H2 lv b2 p2 l0 l1 => ?_⟩
    have b12 := b1.trans b2
    refine ⟨_, _, rfl, sz60 (by simp), fun l nl => ?_⟩
    have s3 := same_upd (o := .lst []) nl
    have nla : l ≠ a := p2.ne nl
    have nlH : H l = none := But.free b12 nl nla
    refine ⟨_, rfl, _, rfl, by omega, by omega, for_range (lo := 0) (n := ((k : Nat) : Int).toNat) (fun i σ H' => ∃ (y6 y7 : Option V) (ns : List Int), σ = [some (.ref a), some (.int (k : Int)), some (.int wd), some (.int sy), some (.int lv), some (.ref l), y6, y7] ∧ But a H H' ∧ Pot H' a (n + 2 + 4 * (i : Int)) ∧ H' l = some (.lst (ns.map V.int)) ∧ ns.length = i ∧ ∀ x, x ∈ ns → 0 ≤ x ∧ (x ≤ wd ∨ x ≤ 3))
      ⟨none, none, [], rfl, b12.trans (But.of s3), (p2.same s3).mono (by omega), upd_same, rfl, by simp⟩ ?_ ?_⟩
    · rintro i σ H3 hi ⟨y6, y7, ns, rfl, b3, p3, hl3, hnl, hB⟩
      have hi' : i < k := by omega
      refine ⟨_, rfl, .ref a, rfl, a, 4, _, rfl, p3, by omega, by decide, by decide, fun H4 r1 b4 p4 r10 r11 => ?_⟩
      refine ⟨_, rfl, .ref a, rfl, _, rfl, _, _, rfl, a, _, _, rfl, p4, by omega, by split <;> omega, by split <;> omega, fun H5 r2 b5 p5 r20 r21 => ?_⟩
      have hr2 : r2 < wd := by
        revert r21
        split <;> omega
      refine ⟨_, _, rfl, rfl, .ref a, rfl, _, rfl, sz60 (by simp), fun o no => ?_⟩
      have s6 := same_upd (o := .lst [V.int 0, V.int 0, V.int 0, V.int wd]) no
      refine ⟨a, o, _, _, rfl, p5.same s6, by omega, upd_same, p5.ne no, by simp, by simp, fun H7 v b7 p7 hv => ?_⟩
      obtain ⟨x, rfl, hx⟩ : ∃ x : Int, v = .int x ∧ 0 ≤ x ∧ (x ≤ wd ∨ x ≤ 3) := by
        simp only [List.mem_cons, List.not_mem_nil, or_false] at hv
        rcases hv with rfl | rfl | rfl | rfl
        · exact ⟨0, rfl, by omega, by omega⟩
        · exact ⟨0, rfl, by omega, by omega⟩
        · exact ⟨0, rfl, by omega, by omega⟩
        · exact ⟨wd, rfl, by omega, by omega⟩
      refine ⟨sz60 (by simp), fun o2 no2 => ?_⟩
      have b37 : But a H3 H7 := ((b4.trans b5).trans (But.of s6)).trans b7
      have hl7 : H7 l = some (.lst (ns.map V.int)) := b37 _ _ nla hl3
      have s8 := same_upd (o := .lst [V.int 0, V.int lv, V.int r1, V.int (wd - r2), V.int x, V.int 0]) no2
      have hl8 := s8 _ _ hl7
      have p8 := p7.same s8
      have b38 : But a H (upd H7 o2 (.lst [V.int 0, V.int lv, V.int r1, V.int (wd - r2), V.int x, V.int 0])) := (b3.trans b37).trans (But.of s8)
      refine ⟨.ref l, rfl, .inl ⟨rfl, _, .inl (.inl hl8)⟩, _, rfl, _, _, rfl, rfl, _, rfl, ite2 (fun h => ?_) (fun h => ?_)⟩
      · have hs5 : sy < 5 := by simpa using h
        obtain ⟨v, hv1, hv2⟩ := at_mem (xs := [V.int 0, V.int lv, V.int r1, V.int (wd - r2), V.int x, V.int 0]) (r := sy) y0 (by simp; omega)
        obtain ⟨x', rfl, hx'⟩ : ∃ x : Int, v = .int x ∧ 0 ≤ x ∧ (x ≤ wd ∨ x ≤ 3) := by
          simp only [List.mem_cons, List.not_mem_nil, or_false] at hv2
          rcases hv2 with rfl | rfl | rfl | rfl | rfl | rfl
          · exact ⟨0, rfl, by omega, by omega⟩
          · exact ⟨lv, rfl, by omega, by omega⟩
          · exact ⟨r1, rfl, by omega, by omega⟩
          · exact ⟨wd - r2, rfl, by omega, by omega⟩
          · exact ⟨x, rfl, hx⟩
          · exact ⟨0, rfl, by omega, by omega⟩
        refine ⟨.ref o2, rfl, _, rfl, o2, _, _, _, rfl, rfl, .inl (.inl upd_same), hv1, l, _, _, rfl, rfl, hl8, sz61 (by rw [List.length_map]; omega), ?_⟩
        refine ⟨_, _, ns ++ [x'], rfl, But.mut b38 nlH, (p8.upd nla).mono (by omega), by rw [upd_same, List.map_append]; rfl, by simp [hnl], fun y hy => ?_⟩
        rcases List.mem_append.mp hy with hy | hy
        · exact hB y hy
        · rw [List.mem_singleton.mp hy]; exact hx'
      · refine ⟨.ref a, rfl, _, rfl, _, _, rfl, rfl, a, wd + 1, _, rfl, p8, by omega, by omega, by omega, fun H9 r3 b9 p9 r30 r31 => ?_⟩
        have hl9 := b9 _ _ nla hl8
        refine ⟨l, _, _, rfl, rfl, hl9, sz61 (by rw [List.length_map]; omega), ?_⟩
        refine ⟨_, _, ns ++ [r3], rfl, But.mut (b38.trans b9) nlH, (p9.upd nla).mono (by omega), by rw [upd_same, List.map_append]; rfl, by simp [hnl], fun y hy => ?_⟩
        rcases List.mem_append.mp hy with hy | hy
        · exact hB y hy
        · rw [List.mem_singleton.mp hy]; exact ⟨by omega, by omega⟩
    · rintro σ H3 ⟨y6, y7, ns, rfl, b3, p3, hl3, hnl, hB⟩
      refine ⟨.ref l, rfl, l, _, rfl, .inl ⟨.inl (.inl hl3), fun p np => ?_⟩⟩
      exact q _ p ns (b3.trans (But.of (same_upd np))) ((p3.same (same_upd np)).mono (by omega)) (by omega) hB (.inl (.inl upd_same))
end
section
variable {P : Program} {w : World} {K : PySem.W.Frag} {mg : Str → Option Value} {base : Heap}
def sp_L_sums (K : PySem.W.Frag) : Sp := fun vs H Q _ => ∃ (a : Addr) (ns : List Int), vs = [.ref a] ∧ SqT K H a (ns.map V.int) ∧ ns.length ≤ 1000 ∧ ∀ H' p, Same H H' → H p = none → H' p = some (.lst (sms ns)) → Q (.ref p) H'
theorem ok_L_sums (TX : Tx K mg) : FnOk P w K mg base CX0 1 TX.a_L_sums TX.fd_L_sums ["_law_some"] (sp_L_sums K) := by
  refine TX.f_L_sums.ok sc_L_sums (fun vs H Q E h => ?_) (fun cdv A outer s H vs Q E hr h => ?_)
  · obtain ⟨a, ns, rfl, _⟩ := h; rfl
  · obtain ⟨a, ns, rfl, hS, h3, q⟩ := h
    refine ⟨_, (pss_cons (ps_set (i := 1) sc_L_sums.nd rfl (.inl rfl) (pe_lst (pa_cons pe_int pa_nil)))
      (pss_cons (ps_for PassesOwn.never rfl (k_piT (K := K) rfl (pv 0)) (pg_name (i := 2) sc_L_sums.nd rfl (.inl rfl))
        (pss_one (ps_expr (pe_bm PySem.F.plainAttrs_list PySem.F.slot_list_append PySem.F.type_list_append mt_append (pv 1) (pa_cons (pe_op op_add (pe_ix (k_ixL (K := K) rfl) (pv 1) (pe_un un_neg pe_int) (fun _ _ => rfl)) (pv 2)) pa_nil)))))
      (pss_one (ps_ret (pv 1))))), ?_⟩
    refine ⟨sz60 (by simp), fun l nl => ?_⟩
    have s1 := same_upd (o := .lst [V.int 0]) nl
    refine ⟨.ref a, rfl, a, rfl, ⟨_, Same.tup s1 hS⟩, for_tup (K := K) (xs := ns.map V.int) (fun i σ H' => ∃ y2, σ = [some (.ref a), some (.ref l), y2] ∧ Same H H' ∧ H' l = some (.lst ((List.range (i + 1)).map fun k => V.int (sm ns k)))) ⟨none, rfl, s1, by rw [upd_same]; simp [sm_zero]⟩ (fun i σ H' _ ⟨_, _, h, _⟩ => Same.tup h hS) ?_ ?_⟩
    · rintro i x σ H2 hx ⟨y2, rfl, s2, h2⟩
      rw [List.getElem?_map, Option.map_eq_some_iff] at hx
      obtain ⟨z, hz, rfl⟩ := hx
      have hi : i < ns.length := (List.getElem?_eq_some_iff.mp hz).1
      have e1 : ((List.range (i + 1)).map fun k => V.int (sm ns k)) = ((List.range i).map fun k => V.int (sm ns k)) ++ [V.int (sm ns i)] := by rw [List.range_succ, List.map_append]; rfl
      refine ⟨.ref l, rfl, .inl ⟨rfl, _, .inl (.inl h2)⟩, .ref l, rfl, _, rfl, l, _, -1, _, rfl, rfl, .inl (.inl h2), (by rw [e1]; exact atI_last _ _), _, rfl, _, _, rfl, rfl, l, _, _, rfl, rfl, h2, sz61 (by simp; omega), ?_⟩
      refine ⟨_, rfl, Same.mut s2 nl, ?_⟩
      rw [upd_same, List.range_succ (n := i + 1), List.map_append]
      show _ = some (HO.lst (_ ++ [V.int (sm ns (i + 1))]))
      rw [sm_succ hz]
    · rintro σ H2 ⟨y2, rfl, s2, h2⟩
      rw [List.length_map] at h2
      exact ⟨_, rfl, q _ l s2 nl h2⟩
end
def isTup : PyData → Bool
  | .tuple _ => true
  | _ => false
theorem tup_ty {K : PySem.W.Frag} {H : Hp} {x : V} {d : PyData} (h : Dq K H x d) : ∃ T, TyX K H x (.type T) ∧ L2.kitB T "tuple" = some (isTup d) := by
  cases h with
  | nonq => exact ⟨"NoneType", .base .non, show L2.kitB "NoneType" "tuple" = some false by decide +kernel⟩
  | blq b => exact ⟨"bool", .base (.bl b), show L2.kitB "bool" "tuple" = some false by decide +kernel⟩
  | intq i => exact ⟨"int", .base (.int i), show L2.kitB "int" "tuple" = some false by decide +kernel⟩
  | strq x => exact ⟨"str", .base (.str x), show L2.kitB "str" "tuple" = some false by decide +kernel⟩
  | lstq hs _ _ =>
    refine ⟨"list", ?_, show L2.kitB "list" "tuple" = some false by decide +kernel⟩
    rcases hs with (h | ⟨o, h⟩) | ⟨o, its, n, h1, h2, _⟩
    · exact .base (.lst h)
    · exact .base (.frz h)
    · exact .kList h1 h2
  | tupq hs _ =>
    refine ⟨"tuple", ?_, show L2.kitB "tuple" "tuple" = some true by decide +kernel⟩
    rcases hs with (h | ⟨o, h⟩) | ⟨o, its, n, h1, h2, _⟩
    · exact .base (.tup h)
    · exact .fTuple h
    · exact .kTuple h1 h2
  | dctq he _ _ => exact ⟨"dict", .base (.dK he), show L2.kitB "dict" "tuple" = some false by decide +kernel⟩
theorem DqAll.at {K : PySem.W.Frag} {H : Hp} : ∀ {vs : List V} {ds : List PyData} {i : Nat} {v : V}, DqAll K H vs ds → vs[i]? = some v → ∃ d, ds[i]? = some d ∧ Dq K H v d := fun {vs} => by
  induction vs with
  | nil => intro ds i v h e; simp at e
  | cons u us ih =>
    intro ds i v h e
    cases h with
    | cons a b =>
      cases i with
      | zero => cases e; exact ⟨_, rfl, a⟩
      | succ i => obtain ⟨d, h1, h2⟩ := ih b e; exact ⟨d, h1, h2⟩
theorem DqAll.len {K : PySem.W.Frag} {H : Hp} : ∀ {vs : List V} {ds : List PyData}, DqAll K H vs ds → vs.length = ds.length
  | _, _, .nil => rfl
  | _, _, .cons a b => by simp [DqAll.len b]
/-! ### what stands beside the draws' list -/
def off (a : Addr) (H : Hp) : Hp := fun b => if b = a then none else H b
theorem off_at {a b : Addr} {H : Hp} (h : b ≠ a) : off a H b = H b := if_neg h
theorem off_sub {a : Addr} {H : Hp} : Same (off a H) H := fun b o e => by
  by_cases h : b = a
  · unfold off at e; rw [if_pos h] at e; cases e
  · rwa [off_at h] at e
theorem off_but {a : Addr} {H H' : Hp} (b : But a H H') : Same (off a H) (off a H') := fun c o e => by
  by_cases h : c = a
  · unfold off at e; rw [if_pos h] at e; cases e
  · rw [off_at h] at e ⊢; exact b _ _ h e
theorem off_same {a : Addr} {H H' : Hp} (s : Same H H') : Same (off a H) (off a H') := off_but (But.of s)
theorem off_new {a : Addr} {H G : Hp} {o : HO} (ha : H a = some o) : Same (fun b => match H b with | none => G b | some _ => none) (off a G) := fun c u e => by
  have e' : (match H c with | none => G c | some _ => none) = some u := e
  cases h : H c with
  | some x => rw [h] at e'; cases e'
  | none =>
    rw [h] at e'
    rw [off_at (fun z => by rw [z, ha] at h; cases h)]
    exact e'
/-! ### data whose repr is short -/
structure Sn (k n : Nat) (d : PyData) : Prop where
  dep : d.depth ≤ k
  shw : d.showable = true
  short : d.leavesShort 60 = true
  bulk : d.bulk ≤ n
theorem Sn.mono {k n k' n' : Nat} {d : PyData} (h : Sn k n d) (e : k ≤ k') (e' : n ≤ n') : Sn k' n' d := ⟨Nat.le_trans h.dep e, h.shw, h.short, Nat.le_trans h.bulk e'⟩
theorem Sn.t1 {k n : Nat} {d : PyData} (h : Sn k n d) : Sn (k + 1) (n + 8) (.tuple [d]) := by
  obtain ⟨a, b, c, e⟩ := h
  refine ⟨?_, ?_, ?_, ?_⟩
  · simp [PyData.depth, PyData.depthAll]; omega
  · simp [PyData.showable, PyData.showableAll, b]
  · simp [PyData.leavesShort, PyData.leavesShortAll, c]
  · simp [PyData.bulk, PyData.bulkAll]; omega
theorem Sn.t2 {k n m : Nat} {d e : PyData} (h : Sn k n d) (h' : Sn k m e) : Sn (k + 1) (n + m + 8) (.tuple [d, e]) := by
  obtain ⟨a, b, c, f⟩ := h
  obtain ⟨a', b', c', f'⟩ := h'
  refine ⟨?_, ?_, ?_, ?_⟩
  · simp [PyData.depth, PyData.depthAll]; omega
  · simp [PyData.showable, PyData.showableAll, b, b']
  · simp [PyData.leavesShort, PyData.leavesShortAll, c, c']
  · simp [PyData.bulk, PyData.bulkAll]; omega
theorem Sn.l1 {k n : Nat} {d : PyData} (h : Sn k n d) : Sn (k + 1) (n + 8) (.list [d]) := by
  obtain ⟨a, b, c, e⟩ := h
  refine ⟨?_, ?_, ?_, ?_⟩
  · simp [PyData.depth, PyData.depthAll]; omega
  · simp [PyData.showable, PyData.showableAll, b]
  · simp [PyData.leavesShort, PyData.leavesShortAll, c]
  · simp [PyData.bulk, PyData.bulkAll]; omega
theorem Sn.d1 {k n : Nat} {d : PyData} (h : Sn k n d) : Sn (k + 1) (n + 8) (.dict [(.str "a", d)]) := by
  obtain ⟨a, b, c, e⟩ := h
  have z : (Str.ofString "a").cps.size = 1 := by decide +kernel
  refine ⟨?_, ?_, ?_, ?_⟩
  · simp [PyData.depth, PyData.depthKv]; omega
  · simp [PyData.showable, PyData.showableKv, b]
  · simp only [PyData.leavesShort, PyData.leavesShortKv, c, Bool.and_true]
    decide +kernel
  · simp [PyData.bulk, PyData.bulkKv]; omega
theorem Sn.none {k n : Nat} : Sn k n .none := ⟨by simp [PyData.depth], by simp [PyData.showable], by simp [PyData.leavesShort], by simp [PyData.bulk]⟩
theorem Sn.str {k n : Nat} {x : Str} (h : (PyData.str x).leavesShort 60 = true) (hz : x.cps.size ≤ n) : Sn k n (.str x) := ⟨by simp [PyData.depth], by simp [PyData.showable], h, by simp [PyData.bulk]; omega⟩
theorem Sn.int {k n : Nat} {i : Int} (h : i.natAbs < 10 ^ 50) : Sn k n (.int i) := by
  refine ⟨by simp [PyData.depth], ?_, ?_, by simp [PyData.bulk]⟩
  · simp only [PyData.showable]
    refine decide_eq_true ?_
    by_cases h0 : i.natAbs = 0
    · rw [h0]; decide
    · exact Nat.lt_trans ((Nat.log2_lt h0).mpr (show i.natAbs < 2 ^ 200 from Nat.lt_trans h (by decide +kernel))) (by decide)
  · simp only [PyData.leavesShort]
    refine decide_eq_true ?_
    have e := int_text_length_le10 (a := i) (k := 50) (by decide) h
    have e2 : (PyData.shown (.int i)).length = (toString i).length := by
      simp only [PyData.shown]
      exact PySem.ofString_length _
    omega
theorem Sn.bool {k n : Nat} {b : Bool} : Sn k n (.bool b) := ⟨by simp [PyData.depth], by simp [PyData.showable], by simp [PyData.leavesShort], by simp [PyData.bulk]⟩
/-- repr(x) -/
theorem Sn.repr {k n : Nat} {d : PyData} (h : Sn k n d) (hk : k ≤ 60) (hn : n ≤ 200000) : d.showable = true ∧ d.depth ≤ 60 ∧ d.shown.length ≤ sizeLine := by
  refine ⟨h.shw, Nat.le_trans h.dep hk, ?_⟩
  have h1 := PyData.shown_le_bulk 60 (by decide) d h.short
  have h3 : (60 + 2) * d.bulk ≤ 62 * 200000 := Nat.mul_le_mul (Nat.le_refl _) (Nat.le_trans h.bulk hn)
  have h4 : sizeLine = 16777216 := by decide
  omega
theorem off2_butA {a D : Addr} {G G' : Hp} (s : But a G G') : Same (off D (off a G)) (off D (off a G')) := fun b o e => by
  by_cases hl : b = D
  · unfold off at e; rw [if_pos hl] at e; cases e
  · rw [off_at hl] at e ⊢
    by_cases h : b = a
    · unfold off at e; rw [if_pos h] at e; cases e
    · rw [off_at h] at e ⊢
      exact s _ _ h e
theorem off_self {a : Addr} {G : Hp} : Same (off a G) (off a (off a G)) := fun b o e => by
  by_cases h : b = a
  · unfold off at e; rw [if_pos h] at e; cases e
  · rw [off_at h]; exact e
section
variable {P : Program} {w : World} {K : PySem.W.Frag} {mg : Str → Option Value} {base : Heap}
/-- a value of any kind, beside the list at D and the draws' list at a -/
def Anyv (K : PySem.W.Frag) (D a : Addr) (H : Hp) (x : V) (k n : Nat) : Prop := ∃ d, Dq K (off D (off a H)) x d ∧ Sn k n d
theorem Anyv.but {K : PySem.W.Frag} {D a : Addr} {H H' : Hp} {x : V} {k n : Nat} (h : Anyv K D a H x k n) (b : But a H H') : Anyv K D a H' x k n := by
  obtain ⟨d, h1, h2⟩ := h
  exact ⟨d, Dq.same (off2_butA b) h1, h2⟩
theorem Anyv.mono {K : PySem.W.Frag} {D a : Addr} {H : Hp} {x : V} {k n k' n' : Nat} (h : Anyv K D a H x k n) (e : k ≤ k') (e' : n ≤ n') : Anyv K D a H x k' n' := by
  obtain ⟨d, h1, h2⟩ := h
  exact ⟨d, h1, h2.mono e e'⟩
def sp_L_odd (K : PySem.W.Frag) : Sp := fun vs H Q _ => ∃ (a D : Addr) (n : Int) (o : HO), vs = [.ref a] ∧ Pot H a n ∧ 0 ≤ n ∧ n ≤ 900000 ∧ H sysModules = some o ∧ a ≠ sysModules ∧ (∃ u, H D = some u) ∧ ∀ H' x, But a H H' → Pot H' a (n + 30) → Anyv K D a H' x 22 200 → Q x H'
theorem ok_L_odd (TX : Tx K mg) : FnOk P w K mg base CX0 3 TX.a_L_odd TX.fd_L_odd ["_law_pot_here"] (sp_L_odd K) := by
  refine TX.f_L_odd.ok sc_L_odd (fun vs H Q E h => ?_) (fun cdv A outer s H vs Q E hr h => ?_)
  · obtain ⟨a, D, n, o, rfl, _⟩ := h; rfl
  · obtain ⟨a, D, n, o, rfl, hp, n0, hn, hsys, nas, ⟨uD, hD⟩, q⟩ := h
    refine ⟨_, (pss_cons (ps_set (i := 1) sc_L_odd.nd rfl (.inl rfl) (pe_lst (pa_cons pe_non (pa_cons pe_bl (pa_cons pe_bl (pa_cons pe_int (pa_cons pe_int (pa_cons (pe_un un_neg pe_int) (pa_cons (pe_op op_powW pe_int pe_int) (pa_cons (pe_op op_add (pe_op op_powW pe_int pe_int) pe_int) (pa_cons (pe_op op_powW pe_int pe_int) (pa_cons pe_str (pa_cons pe_str (pa_cons (pe_tup pa_nil) (pa_cons (pe_lst pa_nil) (pa_cons pe_dnewK (pa_cons (pe_tup (pa_cons pe_int pa_nil)) (pa_cons (pe_tup (pa_cons (pe_tup (pa_cons pe_int pa_nil)) pa_nil)) (pa_cons (pe_tup (pa_cons pe_bl pa_nil)) pa_nil)))))))))))))))))))
      (pss_cons (ps_set (i := 2) sc_L_odd.nd rfl (.inl rfl) (pe_call (ok_L_of TX) (hr.mono (by decide)) (by rfl) TX.g_L_of TX.f_L_of.kp TX.bd_L_of .nil pass0 (pa_cons (pv 0) (pa_cons (pv 1) pa_nil))))
      (pss_cons (ps_for PassesOwn.never rfl (pi_range1 (by rfl) TX.b_range (pa_cons (pe_call (ok_L_of TX) (hr.mono (by decide)) (by rfl) TX.g_L_of TX.f_L_of.kp TX.bd_L_of .nil pass0 (pa_cons (pv 0) (pa_cons (pe_lst (pa_cons pe_int (pa_cons pe_int (pa_cons pe_int (pa_cons pe_int (pa_cons pe_int pa_nil)))))) pa_nil))) pa_nil)) (pg_name (i := 3) sc_L_odd.nd rfl (.inl rfl))
        (pss_one (ps_set (i := 2) sc_L_odd.nd rfl (.inl rfl) (pe_call (ok_L_of TX) (hr.mono (by decide)) (by rfl) TX.g_L_of TX.f_L_of.kp TX.bd_L_of .nil pass0 (pa_cons (pv 0) (pa_cons (pe_lst (pa_cons (pe_tup (pa_cons (pv 2) pa_nil)) (pa_cons (pe_lst (pa_cons (pv 2) pa_nil)) (pa_cons (pe_disp (pps_cons pe_str (pv 2) pps_nil) (by rfl) (by rfl) (by simp) (by decide)) pa_nil)))) pa_nil))))))
      (pss_one (ps_ret (pv 2)))))), ?_⟩
    obtain ⟨ua, hua⟩ : ∃ u, H a = some u := by obtain ⟨_, _, _, h, _⟩ := hp; exact ⟨_, h⟩
    have fr : ∀ {Hi : Hp} {p x : Addr} {u : HO}, Same H Hi → Hi p = none → H x = some u → p ≠ x := fun s n h e => by
      have := s _ _ h
      rw [← e, n] at this; cases this
    have at' : ∀ {G : Hp} {p : Addr} {u : HO}, G p = some u → p ≠ a → p ≠ D → (off D (off a G)) p = some u := fun h h1 h2 => by rw [off_at h2, off_at h1]; exact h
    have big1 : (10 : Int) ^ (30 : Int).toNat = 1000000000000000000000000000000 := by decide +kernel
    have big2 : (10 : Int) ^ (9 : Int).toNat = 1000000000 := by decide +kernel
    refine ⟨_, rfl, _, _, rfl, rfl, ⟨by decide, by decide +kernel⟩, _, _, rfl, rfl, ⟨by decide, by decide +kernel⟩, _, _, rfl, rfl, _, _, rfl, rfl, ⟨by decide, by decide +kernel⟩, sz60 (by simp), fun p1 n1 => ⟨sz60 (by simp), fun p2 n2 p3 n3 => ⟨sz60 (by simp), fun p4 n4 => ⟨sz60 (by simp), fun p5 n5 => ⟨sz60 (by simp), fun p6 n6 => ⟨sz60 (by simp), fun p7 n7 => ⟨sz60 (by simp), fun l nl => ?_⟩⟩⟩⟩⟩⟩⟩
    have s1 := same_upd (o := .tup []) n1
    have s2 := same_upd (o := .lst []) n2
    have s3 := same_upd (o := .dK []) n3
    have s4 := same_upd (o := .tup [V.int 0]) n4
    have s5 := same_upd (o := .tup [V.int 0]) n5
    have s6 := same_upd (o := .tup [V.ref p5]) n6
    have s7 := same_upd (o := .tup [V.bl true]) n7
    have s8 := same_upd (o := .lst [V.non, V.bl true, V.bl false, V.int 0, V.int 1, V.int (-1), V.int (10 ^ (9 : Int).toNat), V.int (10 ^ (9 : Int).toNat + 1), V.int (10 ^ (30 : Int).toNat), V.str "", V.str "0", V.ref p1, V.ref p2, V.ref p3, V.ref p4, V.ref p6, V.ref p7]) nl
    have t7 := s7.trans s8
    have t6 := s6.trans t7
    have t5 := s5.trans t6
    have t4 := s4.trans t5
    have t3 := s3.trans t4
    have t2 := s2.trans t3
    have sH := s1.trans t2
    have c2 := s1.trans s2
    have c3 := c2.trans s3
    have c4 := c3.trans s4
    have c5 := c4.trans s5
    have c6 := c5.trans s6
    have c7 := c6.trans s7
    have e1 := t2 _ _ (upd_same (H := H) (a := p1) (o := .tup []))
    have e2 := t3 _ _ (upd_same (a := p2) (o := .lst []))
    have e3 := t4 _ _ (upd_same (a := p3) (o := .dK []))
    have e4 := t5 _ _ (upd_same (a := p4) (o := .tup [V.int 0]))
    have e5 := t6 _ _ (upd_same (a := p5) (o := .tup [V.int 0]))
    have e6 := t7 _ _ (upd_same (a := p6) (o := .tup [V.ref p5]))
    have e7 := s8 _ _ (upd_same (a := p7) (o := .tup [V.bl true]))
    have q1 := fr (Same.refl H) n1 hua
    have q2 := fr s1 n2 hua
    have q3 := fr c2 n3 hua
    have q4 := fr c3 n4 hua
    have q5 := fr c4 n5 hua
    have q6 := fr c5 n6 hua
    have q7 := fr c6 n7 hua
    have r1 := fr (Same.refl H) n1 hD
    have r2 := fr s1 n2 hD
    have r3 := fr c2 n3 hD
    have r4 := fr c3 n4 hD
    have r5 := fr c4 n5 hD
    have r6 := fr c5 n6 hD
    have r7 := fr c6 n7 hD
    have y2 := fr s1 n2 hsys
    have hla := fr c7 nl hua
    have hl := upd_same (H := upd (upd (upd (upd (upd (upd (upd H p1 (.tup [])) p2 (.lst [])) p3 (.dK [])) p4 (.tup [V.int 0])) p5 (.tup [V.int 0])) p6 (.tup [V.ref p5])) p7 (.tup [V.bl true])) (a := l) (o := .lst [V.non, V.bl true, V.bl false, V.int 0, V.int 1, V.int (-1), V.int (10 ^ (9 : Int).toNat), V.int (10 ^ (9 : Int).toNat + 1), V.int (10 ^ (30 : Int).toNat), V.str "", V.str "0", V.ref p1, V.ref p2, V.ref p3, V.ref p4, V.ref p6, V.ref p7])
    generalize upd (upd (upd (upd (upd (upd (upd (upd H p1 (.tup [])) p2 (.lst [])) p3 (.dK [])) p4 (.tup [V.int 0])) p5 (.tup [V.int 0])) p6 (.tup [V.ref p5])) p7 (.tup [V.bl true])) l _ = G at e1 e2 e3 e4 e5 e6 e7 hl sH ⊢
    clear s1 s2 s3 s4 s5 s6 s7 s8 t2 t3 t4 t5 t6 t7 c2 c3 c4 c5 c6 c7 n1 n2 n3 n4 n5 n6 n7 nl fr
    refine ⟨.ref a, rfl, _, rfl, a, l, _, n, rfl, hp.same sH, by omega, hl, hla, by simp, by simp, fun H1 v b1 p1' hv => ?_⟩
    have hav : Anyv K D a G v 2 40 := by
      simp only [List.mem_cons, List.not_mem_nil, or_false] at hv
      rcases hv with rfl | rfl | rfl | rfl | rfl | rfl | rfl | rfl | rfl | rfl | rfl | rfl | rfl | rfl | rfl | rfl | rfl
      · exact ⟨_, .nonq, .none⟩
      · exact ⟨_, .blq _, .bool⟩
      · exact ⟨_, .blq _, .bool⟩
      · exact ⟨_, .intq _, .int (by decide +kernel)⟩
      · exact ⟨_, .intq _, .int (by decide +kernel)⟩
      · exact ⟨_, .intq _, .int (by decide +kernel)⟩
      · exact ⟨_, .intq _, .int (by rw [big2]; decide +kernel)⟩
      · exact ⟨_, .intq _, .int (by rw [big2]; decide +kernel)⟩
      · exact ⟨_, .intq _, .int (by rw [big1]; decide +kernel)⟩
      · exact ⟨_, .strq _, .str (by decide +kernel) (by decide +kernel)⟩
      · exact ⟨_, .strq _, .str (by decide +kernel) (by decide +kernel)⟩
      · exact ⟨.tuple [], .tupq (.inl (.inl (at' e1 q1 r1))) .nil, by constructor <;> decide +kernel⟩
      · exact ⟨.list [], .lstq (.inl (.inl (at' e2 q2 r2))) y2 .nil, by constructor <;> decide +kernel⟩
      · exact ⟨.dict [], .dctq (kvs := []) (at' e3 q3 r3) rfl .nil, by constructor <;> decide +kernel⟩
      · exact ⟨.tuple [.int 0], .tupq (.inl (.inl (at' e4 q4 r4))) (.cons (.intq _) .nil), by constructor <;> decide +kernel⟩
      · exact ⟨.tuple [.tuple [.int 0]], .tupq (.inl (.inl (at' e6 q6 r6))) (.cons (.tupq (.inl (.inl (at' e5 q5 r5))) (.cons (.intq _) .nil)) .nil), by constructor <;> decide +kernel⟩
      · exact ⟨.tuple [.bool true], .tupq (.inl (.inl (at' e7 q7 r7))) (.cons (.blq _) .nil), by constructor <;> decide +kernel⟩
    have hav1 := hav.but b1
    have b01 : But a H H1 := (But.of sH).trans b1
    clear hav hv e1 e2 e3 e4 e5 e6 e7 hl
    refine ⟨.ref a, rfl, sz60 (by simp), fun z nz => ?_⟩
    have sz := same_upd (o := .lst [V.int 0, V.int 0, V.int 0, V.int 1, V.int 20]) nz
    refine ⟨a, z, _, _, rfl, p1'.same sz, by omega, upd_same, p1'.ne nz, by simp, by simp, fun H2 v2 b2 p2' hv2 => ?_⟩
    obtain ⟨k, rfl, hk⟩ : ∃ k : Nat, v2 = .int (k : Int) ∧ k ≤ 20 := by
      simp only [List.mem_cons, List.not_mem_nil, or_false] at hv2
      rcases hv2 with rfl | rfl | rfl | rfl | rfl
      · exact ⟨0, rfl, by decide⟩
      · exact ⟨0, rfl, by decide⟩
      · exact ⟨0, rfl, by decide⟩
      · exact ⟨1, rfl, by decide⟩
      · exact ⟨20, rfl, by decide⟩
    have b02 : But a H H2 := b01.trans ((But.of sz).trans b2)
    have hav2 := hav1.but ((But.of sz).trans b2)
    refine ⟨_, rfl, by omega, by omega, ?_⟩
    rw [show ((k : Int)).toNat = k by omega]
    refine for_range (lo := 0) (n := k) (fun i σ H' => ∃ x y3, σ = [some (.ref a), some (.ref l), some x, y3] ∧ But a H H' ∧ Pot H' a (n + 2 + (i : Int)) ∧ Anyv K D a H' x (2 + i) (40 + 8 * i)) ⟨v, _, rfl, b02, p2'.mono (by omega), hav2⟩ ?_ ?_
    rotate_left
    · rintro σ H3 ⟨x, y3, rfl, b3, d3, h3⟩
      exact ⟨x, rfl, q _ x b3 (d3.mono (by omega)) (h3.mono (by omega) (by omega))⟩
    rintro i σ H3 hi ⟨x, y3, rfl, b3, d3, d, hq3, hs3⟩
    have hi' : i < k := hi
    have hsys3 : H3 sysModules = some o := b3 _ _ (Ne.symm nas) hsys
    obtain ⟨ua3, hua3⟩ : ∃ u, H3 a = some u := by obtain ⟨_, _, _, h, _⟩ := d3; exact ⟨_, h⟩
    obtain ⟨uD3, hD3⟩ : ∃ u, H3 D = some u := by
      by_cases e : D = a
      · exact ⟨ua3, by rw [e]; exact hua3⟩
      · exact ⟨uD, b3 _ _ e hD⟩
    have fr : ∀ {Hi : Hp} {p x : Addr} {u : HO}, Same H3 Hi → Hi p = none → H3 x = some u → p ≠ x := fun s n h e => by
      have := s _ _ h
      rw [← e, n] at this; cases this
    refine ⟨.ref a, rfl, x, rfl, sz60 (by simp), fun q1 m1 => ⟨x, rfl, sz60 (by simp), fun q2 m2 q3 m3 => ⟨x, rfl, upd_same, [(.inr "a", x)], rfl, by simp, ?_⟩⟩⟩
    rw [upd_upd]
    refine ⟨sz60 (by simp), fun q5 m5 => ?_⟩
    have w1 := same_upd (o := .tup [x]) m1
    have w2 := same_upd (o := .lst [x]) m2
    have w3 := same_upd (o := .dK [(.inr "a", x)]) m3
    have w5 := same_upd (o := .lst [V.ref q1, V.ref q2, V.ref q3]) m5
    have v3 := w3.trans w5
    have v2 := w2.trans v3
    have v1 := w1.trans v2
    have e1 := v2 _ _ (upd_same (a := q1) (o := .tup [x]))
    have e2 := v3 _ _ (upd_same (a := q2) (o := .lst [x]))
    have e3 := w5 _ _ (upd_same (a := q3) (o := .dK [(.inr "a", x)]))
    have g1 := fr (Same.refl H3) m1 hua3
    have g2 := fr w1 m2 hua3
    have g3 := fr (w1.trans w2) m3 hua3
    have g5 := fr ((w1.trans w2).trans w3) m5 hua3
    have k1 := fr (Same.refl H3) m1 hD3
    have k2 := fr w1 m2 hD3
    have k3 := fr (w1.trans w2) m3 hD3
    have y2 := fr w1 m2 hsys3
    refine ⟨a, q5, _, _, rfl, d3.same v1, by omega, upd_same, g5, by simp, by simp, fun H5 vv b5 d5 hv5 => ?_⟩
    have bb : But a H3 H5 := (But.of v1).trans b5
    have hx := Dq.same (off2_butA bb) hq3
    refine ⟨vv, _, rfl, b3.trans bb, d5.mono (by omega), ?_⟩
    simp only [List.mem_cons, List.not_mem_nil, or_false] at hv5
    rcases hv5 with rfl | rfl | rfl
    · exact ⟨.tuple [d], .tupq (.inl (.inl (at' (b5 _ _ g1 e1) g1 k1))) (.cons hx .nil), hs3.t1⟩
    · exact ⟨.list [d], .lstq (.inl (.inl (at' (b5 _ _ g2 e2) g2 k2))) y2 (.cons hx .nil), hs3.l1⟩
    · exact ⟨.dict [(.str "a", d)], .dctq (kvs := [(.inr "a", x)]) (at' (b5 _ _ g3 e3) g3 k3) rfl (.cons hx .nil), hs3.d1⟩
end
/-! ### tuples of tuples of whole numbers, and what one change makes of them -/
inductive Tb : PyData → Prop
  | int {i : Int} : i.natAbs < 10 ^ 40 → Tb (.int i)
  | non : Tb .none
  | tup {ds : List PyData} : (∀ d, d ∈ ds → Tb d) → Tb (.tuple ds)
theorem dAll_mem : ∀ {ds : List PyData} {d : PyData}, d ∈ ds → d.depth ≤ PyData.depthAll ds
  | e :: ds, d, h => by
    simp only [PyData.depthAll]
    rcases List.mem_cons.mp h with rfl | h
    · omega
    · have := dAll_mem h; omega
theorem dAll_le {k : Nat} : ∀ {ds : List PyData}, (∀ d, d ∈ ds → d.depth ≤ k) → PyData.depthAll ds ≤ k
  | [], _ => by simp [PyData.depthAll]
  | e :: ds, h => by
    simp only [PyData.depthAll]
    have h1 := h e (List.mem_cons_self ..)
    have h2 := dAll_le (ds := ds) fun d hd => h d (List.mem_cons_of_mem _ hd)
    omega
theorem bAll_app : ∀ xs ys : List PyData, PyData.bulkAll (xs ++ ys) = PyData.bulkAll xs + PyData.bulkAll ys
  | [], ys => by simp [PyData.bulkAll]
  | x :: xs, ys => by
    have := bAll_app xs ys
    simp only [List.cons_append, PyData.bulkAll, this]; omega
theorem bAll_len : ∀ xs : List PyData, xs.length ≤ PyData.bulkAll xs
  | [] => by simp
  | x :: xs => by
    have := bAll_len xs
    simp only [List.length_cons, PyData.bulkAll]; omega
theorem shAll_of : ∀ {ds : List PyData}, (∀ d, d ∈ ds → d.showable = true ∧ d.leavesShort 60 = true) → PyData.showableAll ds = true ∧ PyData.leavesShortAll 60 ds = true
  | [], _ => by simp [PyData.showableAll, PyData.leavesShortAll]
  | e :: ds, h => by
    have h1 := h e (List.mem_cons_self ..)
    have h2 := shAll_of (ds := ds) fun d hd => h d (List.mem_cons_of_mem _ hd)
    simp only [PyData.showableAll, PyData.leavesShortAll, h1.1, h1.2, h2.1, h2.2, Bool.and_self, and_self]
theorem Sn.tupB {k n : Nat} {ds : List PyData} (h : ∀ d, d ∈ ds → ∃ m, Sn k m d) (hb : PyData.bulkAll ds ≤ n) : Sn (k + 1) n (.tuple ds) := by
  obtain ⟨h1, h2⟩ := shAll_of (ds := ds) fun d hd => by obtain ⟨m, hm⟩ := h d hd; exact ⟨hm.shw, hm.short⟩
  have h3 := dAll_le (k := k) (ds := ds) fun d hd => by obtain ⟨m, hm⟩ := h d hd; exact hm.dep
  exact ⟨by simp only [PyData.depth]; omega, by simp only [PyData.showable]; exact h1, by simp only [PyData.leavesShort]; exact h2, by simp only [PyData.bulk]; exact hb⟩
theorem Sn.lstB {k n : Nat} {ds : List PyData} (h : ∀ d, d ∈ ds → ∃ m, Sn k m d) (hb : PyData.bulkAll ds ≤ n) : Sn (k + 1) n (.list ds) := by
  obtain ⟨a, b, c, e⟩ := Sn.tupB h hb
  exact ⟨by simp only [PyData.depth] at a ⊢; exact a, by simp only [PyData.showable] at b ⊢; exact b, by simp only [PyData.leavesShort] at c ⊢; exact c, by simp only [PyData.bulk] at e ⊢; exact e⟩
theorem tb_sn {d : PyData} (h : Tb d) : Sn d.depth d.bulk d := by
  induction h with
  | int hi =>
    have := Sn.int (k := 0) (n := 0) (i := _) (Nat.lt_trans hi (by decide +kernel))
    exact this.mono (Nat.zero_le _) (Nat.zero_le _)
  | non => exact .none
  | tup h ih =>
    rename_i ds
    have e : (PyData.tuple ds).depth = PyData.depthAll ds + 1 := by simp only [PyData.depth]
    have e2 : (PyData.tuple ds).bulk = PyData.bulkAll ds := by simp only [PyData.bulk]
    rw [e, e2]
    exact Sn.tupB (fun d hd => ⟨_, (ih d hd).mono (dAll_mem hd) (Nat.le_refl _)⟩) (Nat.le_refl _)
theorem tb_sh {d : PyData} (h : Tb d) : ∀ k, d.depth ≤ k → Sh k d := by
  induction h with
  | int hi => intro k _; exact Sh.int _
  | non => intro k _; exact ⟨by simp [PyData.canLay0], by simp [PyData.depth]⟩
  | tup h ih =>
    rename_i ds
    intro k hk
    have e : (PyData.tuple ds).depth = PyData.depthAll ds + 1 := by simp only [PyData.depth]
    obtain ⟨k', rfl⟩ : ∃ k', k = k' + 1 := ⟨k - 1, by omega⟩
    exact Sh.tup fun d hd => ih d hd k' (by have := dAll_mem hd; omega)
theorem dqAll_dp {K : PySem.W.Frag} {H : Hp} : ∀ {ds : List PyData} {xs : List V}, (∀ d, d ∈ ds → ∀ x, Dq K H x d → Dp K H x d) → DqAll K H xs ds → DpAll K H xs ds
  | _, _, _, .nil => .nil
  | _, _, h, .cons a b => .cons (h _ (List.mem_cons_self ..) _ a) (dqAll_dp (fun d hd => h d (List.mem_cons_of_mem _ hd)) b)
theorem tb_dp {K : PySem.W.Frag} {H : Hp} {d : PyData} (h : Tb d) : ∀ x, Dq K H x d → Dp K H x d := by
  induction h with
  | int hi => intro x hq; cases hq; exact .int _
  | non => intro x hq; cases hq; exact .non
  | tup h ih => intro x hq; cases hq with | tupq hs ha => exact .tup hs (dqAll_dp ih ha)
theorem DqAll.get {K : PySem.W.Frag} {H : Hp} : ∀ {ds : List PyData} {xs : List V} {i : Nat} {d : PyData}, DqAll K H xs ds → ds[i]? = some d → ∃ x, xs[i]? = some x ∧ Dq K H x d
  | _, _, 0, _, .cons a _, h => by cases h; exact ⟨_, rfl, a⟩
  | _, _, i + 1, _, .cons _ b, h => DqAll.get (i := i) b h
  | _, _, 0, _, .nil, h => nomatch h
  | _, _, _ + 1, _, .nil, h => nomatch h
theorem DqAll.take {K : PySem.W.Frag} {H : Hp} : ∀ {ds : List PyData} {xs : List V} (n : Nat), DqAll K H xs ds → DqAll K H (xs.take n) (ds.take n)
  | _, _, 0, _ => .nil
  | _, _, _ + 1, .nil => .nil
  | _, _, n + 1, .cons a b => .cons a (DqAll.take n b)
theorem DqAll.drop {K : PySem.W.Frag} {H : Hp} : ∀ {ds : List PyData} {xs : List V} (n : Nat), DqAll K H xs ds → DqAll K H (xs.drop n) (ds.drop n)
  | _, _, 0, h => h
  | _, _, _ + 1, .nil => .nil
  | _, _, n + 1, .cons _ b => DqAll.drop n b
theorem DqAll.app' {K : PySem.W.Frag} {H : Hp} : ∀ {vs ws : List V} {ds es : List PyData}, DqAll K H vs ds → DqAll K H ws es → DqAll K H (vs ++ ws) (ds ++ es)
  | _, _, _, _, .nil, h => h
  | _, _, _, _, .cons a b, h => .cons a (DqAll.app' b h)
theorem off_tup {K : PySem.W.Frag} {H : Hp} {D a p : Addr} {la lD xs : List V} (ha : H a = some (.lst la)) (hD : H D = some (.lst lD)) (h : SqT K H p xs) : SqT K (off D (off a H)) p xs := by
  have at' : ∀ u, H p = some u → (∀ l, u ≠ .lst l) → (off D (off a H)) p = some u := fun u e n => by
    rw [off_at fun z => n lD (by rw [z, hD] at e; exact (Option.some.inj e).symm), off_at fun z => n la (by rw [z, ha] at e; exact (Option.some.inj e).symm)]; exact e
  rcases h with (h | ⟨o, h⟩) | h
  · exact .inl (.inl (at' _ h fun _ z => nomatch z))
  · exact .inl (.inr ⟨o, at' _ h fun _ z => nomatch z⟩)
  · exact .inr h
theorem bAll_cut {ds : List PyData} {s : Nat} {d : PyData} (h : ds[s]? = some d) : PyData.bulkAll (ds.take s) + (d.bulk + 1) + PyData.bulkAll (ds.drop (s + 1)) = PyData.bulkAll ds := by
  have e : ds = ds.take s ++ d :: ds.drop (s + 1) := by
    obtain ⟨h1, h2⟩ := List.getElem?_eq_some_iff.mp h
    rw [← h2]
    exact (by simpa using (List.take_append_drop s ds).symm.trans (by rw [List.drop_eq_getElem_cons h1]))
  conv => rhs; rw [e]
  rw [bAll_app]
  simp only [PyData.bulkAll]
  omega
theorem Sn.text {i : Int} (h : i.natAbs < 10 ^ 40) : Sn 0 50 (.str (Str.ofString (toString i))) := by
  refine Sn.str ?_ ?_
  · simp only [PyData.leavesShort]
    rw [List.all_eq_true]
    intro c hc
    have h2 := strOk_of (toString i)
    unfold PyData.strOk at h2
    rw [← Array.all_toList, List.all_eq_true] at h2
    exact decide_eq_true (Nat.lt_trans (of_decide_eq_true (h2 c hc)) (by decide))
  · have h1 := int_text_length_le10 (a := i) (k := 40) (by decide) h
    have h2 := PySem.ofString_length (toString i)
    show (Str.ofString (toString i)).length ≤ 50
    omega
section
variable {P : Program} {w : World} {K : PySem.W.Frag} {mg : Str → Option Value} {base : Heap}
def spq_bent (m : Nat) (K : PySem.W.Frag) : Sp := fun vs H Q _ => ∃ (a D : Addr) (x : V) (d : PyData) (k b : Nat) (n : Int) (o : HO) (lD : List V), vs = [.ref a, x] ∧ Pot H a n ∧ 0 ≤ n ∧ n + 60 * m ≤ 800000 ∧ H sysModules = some o ∧ a ≠ sysModules ∧ H D = some (.lst lD) ∧ Dq K (off D (off a H)) x d ∧ Tb d ∧ d.depth ≤ k ∧ d.bulk ≤ b ∧ k ≤ 30 ∧ b ≤ 20000 ∧ k < m ∧
  ∀ H' y, But a H H' → Pot H' a (n + 60 * m) → Anyv K D a H' y (k + 23) (2 * b + 400) → Q y H'
theorem okq_bent (TX : Tx K mg) : ∀ m : Nat, FnOk P w K mg base CX0 (3 + m) TX.a_L_bent TX.fd_L_bent ["_law_pot_here", "_law_thing"] (spq_bent m K)
  | 0 => ⟨fun vs H Q E h => by obtain ⟨_, _, _, _, _, _, _, _, _, _, _, _, _, _, _, _, _, _, _, _, _, _, h, _⟩ := h; omega, fun A outer s H args us vs Q E _ _ _ _ h => by obtain ⟨_, _, _, _, _, _, _, _, _, _, _, _, _, _, _, _, _, _, _, _, _, _, h, _⟩ := h; omega⟩
  | m + 1 => by
    have ih := okq_bent TX m
    refine TX.f_L_bent.ok (k := 3 + m) sc_L_bent (fun vs H Q E h => ?_) (fun cdv A outer s H vs Q E hr h => ?_)
    · obtain ⟨a, D, x, d, k, b, n, o, lD, rfl, _⟩ := h; rfl
    · obtain ⟨a, D, x, d, k, b, n, o, lD, rfl, pp, n0, hn, hsys, nas, hD, hq, ht, hk, hb, hk30, hb2, hkm, q⟩ := h
      refine ⟨_, (pss_cons (ps_if (PW.pt (pw_and (pt_val (pe_callB (id := "isinstance") (k_isi (K := K) rfl) (by rfl) TX.b_isinstance (by decide +kernel) (pa_cons (pv 1) (pa_cons (pe_bltn (v := .ty "tuple") (by rfl) TX.b_tuple (by decide +kernel) rfl) pa_nil)))) (pw_and (pt_cmpR (op_neD hr.units) (pv 1) (pe_tup pa_nil) (nomark _)) (pw_and1 (pt_cmpR op_gt (pe_call (ok_L_take TX) (hr.mono (by omega)) (by rfl) TX.g_L_take TX.f_L_take.kp TX.bd_L_take .nil pass0 (pa_cons (pv 0) (pa_cons pe_int pa_nil))) pe_int (nomark _))))))
        (pss_cons (ps_par (i := 2) (j := 3) (by rfl) sc_L_bent.nd rfl rfl (by decide) rfl rfl (pa_cons (pe_call (ok_L_take TX) (hr.mono (by omega)) (by rfl) TX.g_L_take TX.f_L_take.kp TX.bd_L_take .nil pass0 (pa_cons (pv 0) (pa_cons (pe_callB (id := "len") (k_len (K := K) rfl) (by rfl) TX.b_len (by decide +kernel) (pa_cons (pv 1) pa_nil)) pa_nil))) (pa_cons (pe_call (ok_L_take TX) (hr.mono (by omega)) (by rfl) TX.g_L_take TX.f_L_take.kp TX.bd_L_take .nil pass0 (pa_cons (pv 0) (pa_cons pe_int pa_nil))) pa_nil)) (by rfl))
        (pss_cons (ps_if (pt_cmpR op_lt (pv 3) pe_int (nomark _))
          (pss_one (ps_ret (pe_op (k_catT (K := K) rfl) (pe_op (k_catT (K := K) rfl) (pe_slice (k_slT (K := K) rfl) (pv 1) po_none (po_some (pv 2))) (pe_tup (pa_cons (pe_call ih (hr.mono (by omega)) (by rfl) TX.g_L_bent TX.f_L_bent.kp TX.bd_L_bent .nil pass0 (pa_cons (pv 0) (pa_cons (pe_ix (k_ixT (K := K) rfl) (pv 1) (pv 2) (fun _ _ => rfl)) pa_nil))) pa_nil))) (pe_slice (k_slT (K := K) rfl) (pv 1) (po_some (pe_op op_add (pv 2) pe_int)) po_none))))
          pss_nil)
        (pss_one (ps_ret (pe_ix (k_ixL (K := K) rfl) (pe_lst (pa_cons (pe_op (k_catT (K := K) rfl) (pe_slice (k_slT (K := K) rfl) (pv 1) po_none (po_some (pv 2))) (pe_slice (k_slT (K := K) rfl) (pv 1) (po_some (pe_op op_add (pv 2) pe_int)) po_none)) (pa_cons (pe_op (k_catT (K := K) rfl) (pe_slice (k_slT (K := K) rfl) (pv 1) po_none (po_some (pe_op op_add (pv 2) pe_int))) (pe_slice (k_slT (K := K) rfl) (pv 1) (po_some (pv 2)) po_none)) (pa_cons (pe_callTy (T := "list") (k_listOf (K := K) rfl) (by rfl) TX.b_list (by decide +kernel) (pa_cons (pv 1) pa_nil)) pa_nil)))) (pe_op op_sub (pv 3) pe_int) (fun _ _ => rfl))))))
        pss_nil)
      (pss_cons (ps_if (PW.pt (pw_and (pt_val (pe_callB (id := "isinstance") (k_isi (K := K) rfl) (by rfl) TX.b_isinstance (by decide +kernel) (pa_cons (pv 1) (pa_cons (pe_bltn (v := .ty "int") (by rfl) TX.b_int (by decide +kernel) rfl) pa_nil)))) (pw_and1 (pt_cmpR op_gt (pe_call (ok_L_take TX) (hr.mono (by omega)) (by rfl) TX.g_L_take TX.f_L_take.kp TX.bd_L_take .nil pass0 (pa_cons (pv 0) (pa_cons pe_int pa_nil))) pe_int (nomark _)))))
        (pss_one (ps_ret (pe_call (ok_L_of TX) (hr.mono (by omega)) (by rfl) TX.g_L_of TX.f_L_of.kp TX.bd_L_of .nil pass0 (pa_cons (pv 0) (pa_cons (pe_lst (pa_cons (pe_op op_add (pv 1) pe_int) (pa_cons (pe_op op_sub (pv 1) pe_int) (pa_cons (pe_cmpR op_eq (pv 1) pe_int (nomark _)) (pa_cons (pe_callTy (T := "str") call_str_int (by rfl) TX.b_str (by decide +kernel) (pa_cons (pv 1) pa_nil)) (pa_cons pe_non (pa_cons pe_int (pa_cons (pe_op op_sub pe_int (pv 1)) pa_nil)))))))) pa_nil)))))
        pss_nil)
      (pss_one (ps_ret (pe_call (ok_L_of TX) (hr.mono (by omega)) (by rfl) TX.g_L_of TX.f_L_of.kp TX.bd_L_of .nil pass0 (pa_cons (pv 0) (pa_cons (pe_lst (pa_cons (pe_call (ok_L_odd TX) (hr.mono (by omega)) (by rfl) TX.g_L_odd TX.f_L_odd.kp TX.bd_L_odd .nil pass0 (pa_cons (pv 0) pa_nil)) (pa_cons (pe_lst (pa_cons (pv 1) pa_nil)) (pa_cons (pe_tup (pa_cons (pv 1) pa_nil)) pa_nil)))) pa_nil))))))), ?_⟩
      have hn' : n + 60 * (m : Int) + 60 ≤ 800000 := by omega
      have hDs : ∀ {G : Hp}, But a H G → Pot G a 0 ∨ (∃ n, Pot G a n) → ∃ l, G D = some (.lst l) := fun {G} bG hp => by
        obtain ⟨n', hp⟩ : ∃ n', Pot G a n' := by rcases hp with h | h; exact ⟨_, h⟩; exact h
        by_cases e : D = a
        · obtain ⟨d1, s1, m1, h1, _⟩ := hp
          exact ⟨_, by rw [e]; exact h1⟩
        · exact ⟨lD, bG _ _ e hD⟩
      have hx0 : ∀ {G : Hp}, But a H G → Dq K (off D (off a G)) x d := fun bG => Dq.same (off2_butA bG) hq
      have fin : ∀ {G : Hp} {j : Int}, But a H G → Pot G a (n + j) → 0 ≤ j → j ≤ 10 → tRet (tCall (sp_L_of K) [] E0 (tCons (tVar 0) (tCons (tLst (tCons (tCall (sp_L_odd K) [] E0 (tCons (tVar 0) tNil)) (tCons (tLst (tCons (tVar 1) tNil)) (tCons (tTup (tCons (tVar 1) tNil)) tNil)))) tNil))) { nx := fun x H' => Q V.non H', rt := Q } [some (.ref a), some x, none, none] G := fun {G j} bG pG j0 j1 => by
        have hsG : G sysModules = some o := bG _ _ (Ne.symm nas) hsys
        obtain ⟨l1, hl1⟩ := hDs bG (.inr ⟨_, pG⟩)
        refine ⟨.ref a, rfl, .ref a, rfl, a, D, n + j, o, rfl, pG, by omega, by omega, hsG, nas, ⟨_, hl1⟩, fun H1 x1 b1 p1 h1 => ?_⟩
        have b01 := bG.trans b1
        have hs1 : H1 sysModules = some o := b01 _ _ (Ne.symm nas) hsys
        obtain ⟨ua, hua⟩ : ∃ u, H1 a = some u := by obtain ⟨_, _, _, h, _⟩ := p1; exact ⟨_, h⟩
        obtain ⟨l2, hl2⟩ := hDs b01 (.inr ⟨_, p1⟩)
        have fr : ∀ {Hi : Hp} {p x : Addr} {u : HO}, Same H1 Hi → Hi p = none → H1 x = some u → p ≠ x := fun s n h e => by
          have := s _ _ h
          rw [← e, n] at this; cases this
        refine ⟨x, rfl, sz60 (by simp), fun q1 m1 => ⟨x, rfl, sz60 (by simp), fun q2 m2 => ⟨sz60 (by simp), fun l nl => ?_⟩⟩⟩
        have w1 := same_upd (o := .lst [x]) m1
        have w2 := same_upd (o := .tup [x]) m2
        have w3 := same_upd (o := .lst [x1, V.ref q1, V.ref q2]) nl
        have v2 := w2.trans w3
        have v1 := w1.trans v2
        have e1 := v2 _ _ (upd_same (a := q1) (o := .lst [x]))
        have e2 := w3 _ _ (upd_same (a := q2) (o := .tup [x]))
        have g1 := fr (Same.refl H1) m1 hua
        have g2 := fr w1 m2 hua
        have g3 := fr (w1.trans w2) nl hua
        have k1 := fr (Same.refl H1) m1 hl2
        have k2 := fr w1 m2 hl2
        have y1 := fr (Same.refl H1) m1 hs1
        refine ⟨a, l, _, _, rfl, p1.same v1, by omega, upd_same, g3, by simp, by simp, fun H5 y b5 p5 hy => ?_⟩
        have bb : But a H1 H5 := (But.of v1).trans b5
        refine q _ y (b01.trans bb) (p5.mono (by omega)) ?_
        have at' : ∀ {p : Addr} {u : HO}, H5 p = some u → p ≠ a → p ≠ D → (off D (off a H5)) p = some u := fun h h1 h2 => by rw [off_at h2, off_at h1]; exact h
        have hx5 := hx0 (b01.trans bb)
        have hsn : Sn k b d := (tb_sn ht).mono hk hb
        simp only [List.mem_cons, List.not_mem_nil, or_false] at hy
        rcases hy with rfl | rfl | rfl
        · exact (h1.but bb).mono (by omega) (by omega)
        · exact ⟨.list [d], .lstq (.inl (.inl (at' (b5 _ _ g1 e1) g1 k1))) y1 (.cons hx5 .nil), hsn.l1.mono (by omega) (by omega)⟩
        · exact ⟨.tuple [d], .tupq (.inl (.inl (at' (b5 _ _ g2 e2) g2 k2))) (.cons hx5 .nil), hsn.t1.mono (by omega) (by omega)⟩
      cases ht with
      | non =>
        cases hq
        refine ⟨_, rfl, .non, .ty "tuple", .type "NoneType", .type "tuple", false, rfl, .ty _, .base .non, kit_ty (by decide +kernel), false, rfl, ?_⟩
        refine iteF ?_
        refine iteF ?_
        refine ⟨_, rfl, .non, .ty "int", .type "NoneType", .type "int", false, rfl, .ty _, .base .non, kit_ty (by decide +kernel), false, rfl, ?_⟩
        refine iteF ?_
        refine iteF ?_
        exact fin (j := 0) (But.refl) (by simpa using pp) (by omega) (by omega)
      | int hi =>
        rename_i i
        cases hq
        have hlog : i.natAbs.log2 < 1920 := by
          by_cases e : i.natAbs = 0
          · rw [e]; decide
          · exact Nat.lt_trans ((Nat.log2_lt e).mpr (show i.natAbs < 2 ^ 200 from Nat.lt_trans hi (by decide +kernel))) (by decide)
        refine ⟨_, rfl, .int i, .ty "tuple", .type "int", .type "tuple", false, rfl, .ty _, .base (.int i), kit_ty (by decide +kernel), false, rfl, ?_⟩
        refine iteF ?_
        refine iteF ?_
        refine ⟨_, rfl, .int i, .ty "int", .type "int", .type "int", true, rfl, .ty _, .base (.int i), kit_ty (by decide +kernel), true, rfl, ?_⟩
        refine iteT ?_
        refine ⟨.ref a, rfl, a, 4, n, rfl, pp, by omega, by decide, by decide, fun H1 r b1 p1 r0 r1 => ⟨_, _, rfl, rfl, _, rfl, ?_⟩⟩
        by_cases hr0 : 0 < r
        rotate_left
        · refine decF (by omega) ?_
          exact fin (j := 1) b1 p1 (by omega) (by omega)
        refine decT (by omega) ?_
        refine ⟨.ref a, rfl, _, rfl, _, _, rfl, rfl, _, rfl, _, _, rfl, rfl, _, rfl, rfl, _, rfl, _, rfl, hlog, _, rfl, _, _, rfl, rfl, sz60 (by simp), fun l nl => ?_⟩
        have zl := same_upd (o := .lst [V.int (i + 1), V.int (i - 1), V.bl (decide (V.int i = V.int 1)), V.str (Str.ofString (toString i)), V.non, V.int 0, V.int (0 - i)]) nl
        refine ⟨a, l, _, _, rfl, p1.same zl, by omega, upd_same, p1.ne nl, by simp, by simp, fun H2 y b2 p2 hy => q _ y (b1.trans ((But.of zl).trans b2)) (p2.mono (by omega)) ?_⟩
        have hbig : ∀ j : Int, j.natAbs ≤ i.natAbs + 1 → Sn 0 0 (.int j) := fun j hj => .int (Nat.lt_of_le_of_lt hj (Nat.lt_of_le_of_lt (show i.natAbs + 1 ≤ 10 ^ 40 by omega) (by decide +kernel)))
        simp only [List.mem_cons, List.not_mem_nil, or_false] at hy
        rcases hy with rfl | rfl | rfl | rfl | rfl | rfl | rfl
        · exact ⟨_, .intq _, (hbig _ (by omega)).mono (by omega) (by omega)⟩
        · exact ⟨_, .intq _, (hbig _ (by omega)).mono (by omega) (by omega)⟩
        · exact ⟨_, .blq _, .bool⟩
        · exact ⟨_, .strq _, (Sn.text hi).mono (by omega) (by omega)⟩
        · exact ⟨_, .nonq, .none⟩
        · exact ⟨_, .intq _, (hbig _ (by omega)).mono (by omega) (by omega)⟩
        · exact ⟨_, .intq _, (hbig _ (by omega)).mono (by omega) (by omega)⟩
      | tup h =>
        rename_i ds
        have hq0 := hq
        have htb : Tb (.tuple ds) := .tup h
        cases hq with
        | tupq hS hA =>
        rename_i c xs
        have hlen := DqAll.len hA
        have off2_sub : ∀ {G : Hp}, Same (off D (off a G)) G := off_sub.trans off_sub
        have hS0 : SqT K H c xs := Same.tup off2_sub hS
        have edep : (PyData.tuple ds).depth = PyData.depthAll ds + 1 := by simp only [PyData.depth]
        have ebulk : (PyData.tuple ds).bulk = PyData.bulkAll ds := by simp only [PyData.bulk]
        have hbl := bAll_len ds
        have hD0 : Dp K H (.ref c) (.tuple ds) := Dp.same off2_sub (tb_dp htb _ hq0)
        refine ⟨_, rfl, .ref c, .ty "tuple", .type "tuple", .type "tuple", true, rfl, .ty _, ty_tup hS0, kit_ty (by decide +kernel), true, rfl, ?_⟩
        refine iteT ?_
        refine ⟨_, rfl, sz60 (by simp), fun e ne => ?_⟩
        have se := same_upd (o := .tup []) ne
        refine ⟨.tuple ds, .tuple [], Dp.same se hD0, .tup (.inl (.inl upd_same)) .nil, (tb_sh htb 30 (by omega)).shaped (by decide), (Sh.tup (k := 0) (fun d hd => by cases hd)).shaped (by decide), _, rfl, ?_⟩
        have fall : ∀ {G : Hp} {j : Int} {T1 : TS}, But a H G → Pot G a (n + j) → 0 ≤ j → j ≤ 10 → SqT K G c xs → tSeq (tIfS (tAnd (tB (tCB (rIsi K) (tCons (tVar 1) (tCons (tC (V.ty "int")) tNil)))) (tTest (tOp (rI0 fun i j => V.bl (decide (j < i))) (tCall (sp_L_take K) [] E0 (tCons (tVar 0) (tCons (tC (V.int 4)) tNil))) (tC (V.int 0))))) T1 tNext) (tRet (tCall (sp_L_of K) [] E0 (tCons (tVar 0) (tCons (tLst (tCons (tCall (sp_L_odd K) [] E0 (tCons (tVar 0) tNil)) (tCons (tLst (tCons (tVar 1) tNil)) (tCons (tTup (tCons (tVar 1) tNil)) tNil)))) tNil)))) { nx := fun x H' => Q V.non H', rt := Q } [some (.ref a), some (.ref c), none, none] G := fun bG pG j0 j1 hG => by
          refine ⟨_, rfl, .ref c, .ty "int", .type "tuple", .type "int", false, rfl, .ty _, ty_tup hG, kit_ty (by decide +kernel), false, rfl, ?_⟩
          refine iteF ?_
          refine iteF ?_
          exact fin bG pG j0 j1
        have be : But a H _ := But.of se
        cases ds with
        | nil =>
          refine iteF ?_
          refine iteF ?_
          exact fall (j := 0) be (by simpa using pp.same se) (by omega) (by omega) (Same.tup se hS0)
        | cons d0 ds0 =>
          refine iteB1 (by simp [PyData.eqv, PyData.eqvAll]) ?_
          refine ⟨.ref a, rfl, a, 5, n, rfl, pp.same se, by omega, by decide, by decide, fun H1 r b1 p1 r0 r1 => ⟨_, _, rfl, rfl, _, rfl, ?_⟩⟩
          have b01 : But a H H1 := be.trans b1
          have hS1 : SqT K H1 c xs := (pp.same se).keep b1 _ _ (Same.tup se hS0)
          by_cases hr0 : 0 < r
          rotate_left
          · refine decF (by omega) ?_
            exact fall (j := 1) b01 p1 (by omega) (by omega) hS1
          refine decT (by omega) ?_
          obtain ⟨dd, edd⟩ : ∃ dd, dd = d0 :: ds0 := ⟨_, rfl⟩
          rw [← edd] at h hq0 htb hA hlen edep ebulk hbl hD0 hk hb hx0
          have hne : 1 ≤ dd.length := by rw [edd]; simp
          refine ⟨.ref a, rfl, .ref c, rfl, c, xs, rfl, .inr hS1, a, _, _, rfl, p1, by omega, by omega, by omega, fun H2 r2 b2 p2 r20 r21 => ⟨.ref a, rfl, a, 8, _, rfl, p2, by omega, by decide, by decide, fun H3 r3 b3 p3 r30 r31 => ⟨_, _, rfl, ?_⟩⟩⟩
          obtain ⟨s, rfl⟩ : ∃ s : Nat, r2 = (s : Int) := ⟨r2.toNat, by omega⟩
          have hs : s < xs.length := by omega
          have b03 := b01.trans (b2.trans b3)
          have hS3 : SqT K H3 c xs := p1.keep (b2.trans b3) _ _ hS1
          refine ⟨_, rfl, _, _, rfl, rfl, _, rfl, ?_⟩
          by_cases hw : r3 < 5
          · refine decT (by omega) ?_
            refine ⟨.ref c, rfl, ?_⟩
            dsimp only [tNoPart]
            refine ⟨_, rfl, _, rfl, sl_read hS3 fun c1 H4 s4 hc1 => ?_⟩
            rw [cut_to (by omega)] at hc1
            obtain ⟨dv, hdv⟩ : ∃ dv, dd[s]? = some dv := ⟨_, List.getElem?_eq_getElem (by omega)⟩
            have b04 := b03.trans (But.of s4)
            obtain ⟨v, hv, hvq⟩ := DqAll.get (DqAll.same (off2_butA b04) hA) hdv
            have hmem := List.mem_of_getElem? hdv
            have htv := h dv hmem
            have hdep := dAll_mem hmem
            have hcut := bAll_cut hdv
            obtain ⟨l4, hl4⟩ := hDs b04 (.inr ⟨_, p3.same s4⟩)
            have hS4 := Same.tup s4 hS3
            have c1a : ∀ {G : Hp}, But a H4 G → SqT K G c1 (xs.take s) := fun bG => (p3.same s4).keep bG _ _ hc1
            refine ⟨.ref a, rfl, .ref c, rfl, _, rfl, c, xs, _, v, rfl, rfl, hS4, atI_nat hv, a, D, v, dv, k - 1, dv.bulk, _, o, l4, rfl, p3.same s4, by omega, by omega, b04 _ _ (Ne.symm nas) hsys, nas, hl4, hvq, htv, by omega, Nat.le_refl _, by omega, by omega, by omega, fun H5 y b5 p5 hy => ⟨sz60 (by simp), fun t nt => ?_⟩⟩
            have s6 := same_upd (o := .tup [y]) nt
            refine cat_read (Same.tup s6 (c1a b5)) (.inl (.inl upd_same)) (by simp; omega) fun p7 H7 s7 h7 => ?_
            have b47 : But a H4 H7 := b5.trans ((But.of s6).trans (But.of s7))
            have hS7 : SqT K H7 c xs := (p3.same s4).keep b47 _ _ hS4
            refine ⟨.ref c, rfl, _, rfl, _, _, rfl, rfl, _, rfl, ?_⟩
            dsimp only [tNoPart]
            refine sl_read hS7 fun c2 H8 s8 hc2 => ?_
            have ec : ((s : Int) + 1) = ((s + 1 : Nat) : Int) := by omega
            rw [ec, cut_from (by omega)] at hc2
            refine cat_read (Same.tup s8 h7) hc2 (by simp; omega) fun p9 H9 s9 h9 => ?_
            have b09 := b04.trans (b47.trans ((But.of s8).trans (But.of s9)))
            have p9' := ((p5.same s6).same s7).same (s8.trans s9)
            refine q H9 _ b09 (p9'.mono (by omega)) ?_
            obtain ⟨e', he1, he2⟩ := hy.but ((But.of s6).trans ((But.of s7).trans ((But.of s8).trans (But.of s9))))
            obtain ⟨l9, hl9⟩ := hDs b09 (.inr ⟨_, p9'⟩)
            obtain ⟨la, hla⟩ : ∃ l, H9 a = some (.lst l) := by obtain ⟨_, _, _, h, _⟩ := p9'; exact ⟨_, h⟩
            have hA9 := DqAll.same (off2_butA b09) hA
            refine ⟨.tuple (dd.take s ++ [e'] ++ dd.drop (s + 1)), .tupq (off_tup hla hl9 h9) (DqAll.app' (DqAll.app' (DqAll.take s hA9) (.cons he1 .nil)) (DqAll.drop (s + 1) hA9)), ?_⟩
            refine (Sn.tupB (k := k + 22) (fun d hd => ?_) (Nat.le_refl _)).mono (by omega) ?_
            · rcases List.mem_append.mp hd with hd | hd
              · rcases List.mem_append.mp hd with hd | hd
                · have hm := List.mem_of_mem_take hd
                  exact ⟨_, (tb_sn (h d hm)).mono (by have := dAll_mem hm; omega) (Nat.le_refl _)⟩
                · rw [List.mem_singleton.mp hd]
                  exact ⟨_, he2.mono (by omega) (Nat.le_refl _)⟩
              · have hm := List.mem_of_mem_drop hd
                exact ⟨_, (tb_sn (h d hm)).mono (by have := dAll_mem hm; omega) (Nat.le_refl _)⟩
            · rw [bAll_app, bAll_app]
              have := he2.bulk
              simp only [PyData.bulkAll]
              omega
          · refine decF (by omega) ?_
            have ec : ((s : Int) + 1) = ((s + 1 : Nat) : Int) := by omega
            refine ⟨.ref c, rfl, ?_⟩
            dsimp only [tNoPart]
            refine ⟨_, rfl, _, rfl, sl_read hS3 fun c1 H4 s4 hc1 => ?_⟩
            rw [cut_to (by omega)] at hc1
            refine ⟨.ref c, rfl, _, rfl, _, _, rfl, rfl, _, rfl, ?_⟩
            dsimp only [tNoPart]
            refine sl_read (Same.tup s4 hS3) fun c2 H5 s5 hc2 => ?_
            rw [ec, cut_from (by omega)] at hc2
            refine cat_read (Same.tup s5 hc1) hc2 (by simp; omega) fun q6 H6 s6 h6 => ?_
            have s36 := (s4.trans s5).trans s6
            refine ⟨.ref c, rfl, ?_⟩
            dsimp only [tNoPart]
            refine ⟨_, rfl, _, _, rfl, rfl, _, rfl, sl_read (Same.tup s36 hS3) fun c3 H7 s7 hc3 => ?_⟩
            rw [ec, cut_to (by omega)] at hc3
            refine ⟨.ref c, rfl, _, rfl, _, rfl, ?_⟩
            dsimp only [tNoPart]
            refine sl_read (Same.tup (s36.trans s7) hS3) fun c4 H8 s8 hc4 => ?_
            rw [cut_from (by omega)] at hc4
            refine cat_read (Same.tup s8 hc3) hc4 (by simp; omega) fun q9 H9 s9 h9 => ?_
            have s39 := s36.trans ((s7.trans s8).trans s9)
            refine ⟨.ref c, rfl, c, xs, rfl, .inr (Same.tup s39 hS3), fun l3 n3 => ⟨sz60 (by simp), fun L nL => ?_⟩⟩
            have z3 := same_upd (o := .lst xs) n3
            have z4 := same_upd (o := .lst [V.ref q6, V.ref q9, V.ref l3]) nL
            have hl3 := z4 _ _ (upd_same (H := H9) (a := l3) (o := .lst xs))
            have h6' := Same.tup (((s7.trans s8).trans s9).trans (z3.trans z4)) h6
            have h9' := Same.tup (z3.trans z4) h9
            have hLL := upd_same (H := upd H9 l3 (.lst xs)) (a := L) (o := .lst [V.ref q6, V.ref q9, V.ref l3])
            have b0e : But a H (upd (upd H9 l3 (.lst xs)) L (.lst [V.ref q6, V.ref q9, V.ref l3])) := b03.trans (But.of (s39.trans (z3.trans z4)))
            have pe := p3.same (s39.trans (z3.trans z4))
            obtain ⟨ua9, hua9⟩ : ∃ u, H9 a = some u := by obtain ⟨_, _, _, hh, _⟩ := p3.same s39; exact ⟨_, hh⟩
            obtain ⟨lD9, hlD9⟩ := hDs (b03.trans (But.of s39)) (.inr ⟨_, p3.same s39⟩)
            have hsys9 : H9 sysModules = some o := (b03.trans (But.of s39)) _ _ (Ne.symm nas) hsys
            have n3a : l3 ≠ a := fun e => by rw [e, hua9] at n3; cases n3
            have n3D : l3 ≠ D := fun e => by rw [e, hlD9] at n3; cases n3
            have n3s : l3 ≠ sysModules := fun e => by rw [e, hsys9] at n3; cases n3
            generalize upd (upd H9 l3 (.lst xs)) L _ = He at *
            obtain ⟨l9, hl9⟩ := hDs b0e (.inr ⟨_, pe⟩)
            obtain ⟨la, hla⟩ : ∃ l, He a = some (.lst l) := by obtain ⟨_, _, _, hh, _⟩ := pe; exact ⟨_, hh⟩
            have hAe := DqAll.same (off2_butA b0e) hA
            have snm : ∀ e, e ∈ dd → ∃ m', Sn (k - 1) m' e := fun e he => ⟨_, (tb_sn (h e he)).mono (by have := dAll_mem he; omega) (Nat.le_refl _)⟩
            obtain ⟨dv, hdv⟩ : ∃ dv, dd[s]? = some dv := ⟨_, List.getElem?_eq_getElem (by omega)⟩
            have hcut := bAll_cut hdv
            have hat : ∃ y, atI [V.ref q6, V.ref q9, V.ref l3] (r3 - 5) = some y ∧ Anyv K D a He y (k + 23) (2 * b + 400) := by
              have hr : r3 = 5 ∨ r3 = 6 ∨ r3 = 7 := by omega
              rcases hr with rfl | rfl | rfl
              · refine ⟨.ref q6, rfl, .tuple (dd.take s ++ dd.drop (s + 1)), .tupq (off_tup hla hl9 h6') (DqAll.app' (DqAll.take s hAe) (DqAll.drop (s + 1) hAe)), ?_⟩
                refine (Sn.tupB (k := k - 1) (fun d hd => ?_) (Nat.le_refl _)).mono (by omega) (by rw [bAll_app]; omega)
                rcases List.mem_append.mp hd with hd | hd
                · exact snm _ (List.mem_of_mem_take hd)
                · exact snm _ (List.mem_of_mem_drop hd)
              · refine ⟨.ref q9, rfl, .tuple (dd.take (s + 1) ++ dd.drop s), .tupq (off_tup hla hl9 h9') (DqAll.app' (DqAll.take (s + 1) hAe) (DqAll.drop s hAe)), ?_⟩
                have hb1 : PyData.bulkAll (dd.take (s + 1)) ≤ PyData.bulkAll dd := by
                  have := bAll_app (dd.take (s + 1)) (dd.drop (s + 1))
                  rw [List.take_append_drop] at this; omega
                have hb2 : PyData.bulkAll (dd.drop s) ≤ PyData.bulkAll dd := by
                  have := bAll_app (dd.take s) (dd.drop s)
                  rw [List.take_append_drop] at this; omega
                refine (Sn.tupB (k := k - 1) (fun d hd => ?_) (Nat.le_refl _)).mono (by omega) (by rw [bAll_app]; omega)
                rcases List.mem_append.mp hd with hd | hd
                · exact snm _ (List.mem_of_mem_take hd)
                · exact snm _ (List.mem_of_mem_drop hd)
              · refine ⟨.ref l3, rfl, .list dd, .lstq (.inl (.inl ?_)) n3s hAe, ?_⟩
                · rw [off_at n3D, off_at n3a]; exact hl3
                · exact (Sn.lstB (k := k - 1) (fun d hd => snm d hd) (Nat.le_refl _)).mono (by omega) (by omega)
            obtain ⟨y, hy1, hy2⟩ := hat
            refine ⟨_, rfl, _, _, rfl, rfl, L, _, _, y, rfl, rfl, .inl (.inl hLL), hy1, ?_⟩
            exact q He y b0e (pe.mono (by omega)) hy2
theorem ok_L_bent (TX : Tx K mg) : FnOk P w K mg base CX0 64 TX.a_L_bent TX.fd_L_bent ["_law_pot_here", "_law_thing"] (spq_bent 61 K) := okq_bent TX 61
end
/-! ### tables, of values of any kind -/
def itemsD : PyData → List PyData
  | .tuple ds => ds
  | _ => []
def shpR (n : Nat) : Nat → List PyData → Bool
  | _, [] => true
  | i, e :: es => (isTup e && decide ((itemsD e).length + i = n + 1)) && shpR n (i + 1) es
def shpD (n : Nat) (d : PyData) : Bool := isTup d && (decide ((itemsD d).length = n + 1) && shpR n 0 (itemsD d))
theorem isTup_inv {K : PySem.W.Frag} {H : Hp} {x : V} {d : PyData} (h : Dq K H x d) (ht : isTup d = true) : ∃ a xs ds, x = .ref a ∧ d = .tuple ds ∧ SqT K H a xs ∧ DqAll K H xs ds := by
  cases h with
  | tupq hs ha => exact ⟨_, _, _, rfl, rfl, hs, ha⟩
  | nonq => cases ht
  | blq b => cases ht
  | intq i => cases ht
  | strq x => cases ht
  | lstq _ _ _ => cases ht
  | dctq _ _ _ => cases ht
def shpB (n : Nat) : Nat → List PyData → List Bool
  | _, [] => []
  | i, e :: es => (isTup e && decide ((itemsD e).length + i = n + 1)) :: shpB n (i + 1) es
theorem shpB_len (n : Nat) : ∀ (ds : List PyData) (i : Nat), (shpB n i ds).length = ds.length
  | [], _ => rfl
  | e :: es, i => by simp [shpB, shpB_len n es (i + 1)]
theorem shpB_at {n : Nat} : ∀ {ds : List PyData} {i j : Nat} {e : PyData}, ds[j]? = some e → (shpB n i ds)[j]? = some (isTup e && decide ((itemsD e).length + (i + j) = n + 1))
  | _ :: _, i, 0, e, h => by cases h; rfl
  | _ :: ds, i, j + 1, e, h => by
    have := shpB_at (n := n) (ds := ds) (i := i + 1) (j := j) h
    simp only [shpB, List.getElem?_cons_succ]
    rw [this, show i + 1 + j = i + (j + 1) by omega]
theorem shpB_all {n : Nat} : ∀ {ds : List PyData} {i : Nat}, (shpB n i ds).all id = shpR n i ds
  | [], _ => rfl
  | e :: es, i => by simp [shpB, shpR, shpB_all (n := n) (ds := es) (i := i + 1)]
section
variable {P : Program} {w : World} {K : PySem.W.Frag} {mg : Str → Option Value} {base : Heap}
def sp_has_shape (K : PySem.W.Frag) : Sp := fun vs H Q _ => ∃ (x : V) (d : PyData) (n : Nat), vs = [x, .int (n : Int)] ∧ Dq K H x d ∧ n ≤ 100 ∧ ∀ H', Same H H' → Q (.bl (shpD n d)) H'
theorem ok_has_shape (TX : Tx K mg) : FnOk P w K mg base CX0 1 TX.a_has_shape TX.fd_has_shape ["value", "n"] (sp_has_shape K) := by
  refine TX.f_has_shape.ok sc_has_shape (fun vs H Q E h => ?_) (fun cdv A outer s H vs Q E hr h => ?_)
  · obtain ⟨x, d, n, rfl, _⟩ := h; rfl
  · obtain ⟨x, d, n, rfl, hq, hn, q⟩ := h
    refine ⟨_, (pss_cons (ps_if (PW.pt (pw_or (pt_not (pt_val (pe_callB (id := "isinstance") (k_isi (K := K) rfl) (by rfl) TX.b_isinstance (by decide +kernel) (pa_cons (pv 0) (pa_cons (pe_bltn (v := .ty "tuple") (by rfl) TX.b_tuple (by decide +kernel) rfl) pa_nil))))) (pw_or1 (pt_cmpR op_ne (pe_callB (id := "len") (k_len (K := K) rfl) (by rfl) TX.b_len (by decide +kernel) (pa_cons (pv 0) pa_nil)) (pe_op op_add (pv 1) pe_int) (nomark _)))))
        (pss_one (ps_ret pe_bl))
        pss_nil)
      (pss_one (ps_ret (pe_callB (id := "all") (cr_all rfl) (by rfl) TX.b_all (by decide +kernel) (pa_cons (pe_lc (own := [("start", 2), ("row", 3)]) (by rfl) sc_has_shape.nd (pi_enumT (by rfl) TX.b_enumerate (pa_cons (pv 0) pa_nil)) (blkOk_by (own := [("start", 2), ("row", 3)]) (N := N_has_shape) (sc := defScope s_has_shape) (by decide +kernel)) (fun _ _ _ _ _ => (k_pgT2 (K := K) rfl rfl (pg_name (i := 2) sc_has_shape.nd rfl (Or.inl rfl)) (pg_name (i := 3) sc_has_shape.nd rfl (Or.inl rfl)))) (fun _ _ _ _ _ => pts_nil) (fun _ _ _ _ _ => (pe_and (pe_callB (id := "isinstance") (k_isi (K := K) rfl) (by rfl) TX.b_isinstance (by decide +kernel) (pa_cons (pv 3) (pa_cons (pe_bltn (v := .ty "tuple") (by rfl) TX.b_tuple (by decide +kernel) rfl) pa_nil))) (pe_one (pe_cmpR op_eq (pe_callB (id := "len") (k_len (K := K) rfl) (by rfl) TX.b_len (by decide +kernel) (pa_cons (pv 3) pa_nil)) (pe_op op_sub (pe_op op_add (pv 1) pe_int) (pv 2)) (nomark _)))))) pa_nil))))), ?_⟩
    obtain ⟨T, hT, hkT⟩ := tup_ty hq
    refine ⟨x, rfl, x, .ty "tuple", .type T, .type "tuple", isTup d, rfl, .ty _, hT, kit_ty hkT, isTup d, rfl, ?_⟩
    unfold shpD at q
    by_cases ht : isTup d = true
    rotate_left
    · have ht' : isTup d = false := by simpa using ht
      rw [ht'] at q ⊢
      refine iteT ?_
      exact q _ (Same.refl _)
    rw [ht] at q ⊢
    refine iteF ?_
    obtain ⟨a, xs, ds, rfl, rfl, hS, hA⟩ := isTup_inv hq ht
    have hl := hA.len
    have q' : ∀ H', Same H H' → Q (.bl (decide (ds.length = n + 1) && shpR n 0 ds)) H' := fun H' s' => q H' s'
    refine ⟨.ref a, rfl, a, _, rfl, .inr hS, _, rfl, _, _, rfl, rfl, rfl, _, rfl, ?_⟩
    by_cases hlen : ds.length = n + 1
    rotate_left
    · refine iteB1 ?_ ?_
      · simp only [Bool.not_eq_true', decide_eq_false_iff_not]
        intro z
        have := V.int.inj z
        omega
      · have := q' H (Same.refl _)
        rw [decide_eq_false hlen, Bool.false_and] at this
        exact this
    refine iteB0 (by rw [hl, hlen]; simp) ?_
    rw [decide_eq_true hlen] at q'
    refine ⟨.ref a, rfl, a, xs, rfl, hS, fun D nD => ?_⟩
    refine lc_all (K := K) (walk_enumT (xs := xs)) ((shpB n 0 ds).map PyData.bool) (by rw [List.length_map, shpB_len, hl]) (fun d h => by obtain ⟨b, _, rfl⟩ := List.mem_map.mp h; exact .bl b) (by omega) nD (fun H' s' => Same.tup s' hS) ?_ ?_ mono_pair (fun σ' H' Q Q' h => h _ _)
    · rintro i y Hx Hx' hi sx ⟨Tu, x1, x2, rfl, nT, rfl, e1, e2⟩ d hd R hR
      dsimp only at e1 e2
      cases e1
      obtain ⟨e, he, hqe⟩ := hA.at e2
      rw [List.getElem?_map, shpB_at he] at hd
      cases hd
      have t1 := same_upd (o := .tup [V.int ((i : Nat) : Int), x2]) nT
      have hqe' := Dq.same (sx.trans t1) hqe
      obtain ⟨T2, hT2, hkT2⟩ := tup_ty hqe'
      refine ⟨Tu, _, rfl, .inl (.inl upd_same), rfl, _, _, rfl, _, _, rfl, rfl, rfl, rfl, x2, rfl, x2, .ty "tuple", .type T2, .type "tuple", isTup e, rfl, .ty _, hT2, kit_ty hkT2, isTup e, rfl, ?_⟩
      by_cases ht2 : isTup e = true
      rotate_left
      · have ht3 : isTup e = false := by simpa using ht2
        rw [ht3] at hR ⊢
        exact iteF (hR _ _ t1 (.bl false))
      rw [ht2] at hR ⊢
      refine iteT ?_
      obtain ⟨c, ys, es, rfl, rfl, hS2, hA2⟩ := isTup_inv hqe' ht2
      refine ⟨.ref c, rfl, c, ys, rfl, .inr hS2, _, rfl, _, _, rfl, rfl, _, rfl, _, _, rfl, rfl, rfl, ?_⟩
      have hl2 := hA2.len
      have e3 : decide (V.int (ys.length : Int) = V.int ((n : Int) + 1 - ((i : Nat) : Int))) = decide ((itemsD (.tuple es)).length + (0 + i) = n + 1) := by
        refine decide_eq_decide.mpr ⟨fun z => ?_, fun z => ?_⟩
        · have := V.int.inj z
          show es.length + (0 + i) = n + 1
          omega
        · have z' : es.length + (0 + i) = n + 1 := z
          congr 1; omega
      rw [e3]
      exact hR _ _ t1 (.bl _)
    · intro H5 acc s5 ha hA5
      rw [dpBoolsI hA5] at ha
      refine ⟨D, shpB n 0 ds, rfl, .inl (.inl ha), ?_⟩
      rw [shpB_all]
      exact q' _ s5
end
/-! ### bound tables, of values of any kind -/
def isIntD : PyData → Bool
  | .int _ => true
  | _ => false
theorem intD_ty {K : PySem.W.Frag} {H : Hp} {x : V} {d : PyData} (h : Dq K H x d) : ∃ T b1 b2, TyX K H x (.type T) ∧ L2.kitB T "int" = some b1 ∧ L2.kitB T "bool" = some b2 ∧ (b1 && !b2) = isIntD d := by
  cases h with
  | nonq => exact ⟨"NoneType", false, false, .base .non, by decide +kernel, by decide +kernel, rfl⟩
  | blq b => exact ⟨"bool", true, true, .base (.bl b), by decide +kernel, by decide +kernel, rfl⟩
  | intq i => exact ⟨"int", true, false, .base (.int i), by decide +kernel, by decide +kernel, rfl⟩
  | strq x => exact ⟨"str", false, false, .base (.str x), by decide +kernel, by decide +kernel, rfl⟩
  | lstq hs _ _ =>
    refine ⟨"list", false, false, ?_, by decide +kernel, by decide +kernel, rfl⟩
    rcases hs with (h | ⟨o, h⟩) | ⟨o, its, n, h1, h2, _⟩
    · exact .base (.lst h)
    · exact .base (.frz h)
    · exact .kList h1 h2
  | tupq hs _ =>
    refine ⟨"tuple", false, false, ?_, by decide +kernel, by decide +kernel, rfl⟩
    rcases hs with (h | ⟨o, h⟩) | ⟨o, its, n, h1, h2, _⟩
    · exact .base (.tup h)
    · exact .fTuple h
    · exact .kTuple h1 h2
  | dctq he _ _ => exact ⟨"dict", false, false, .base (.dK he), by decide +kernel, by decide +kernel, rfl⟩
section
variable {P : Program} {w : World} {K : PySem.W.Frag} {mg : Str → Option Value} {base : Heap}
def sp_L_is_int (K : PySem.W.Frag) : Sp := fun vs H Q _ => ∃ x d, vs = [x] ∧ Dq K H x d ∧ Q (.bl (isIntD d)) H
theorem ok_L_is_int (TX : Tx K mg) : FnOk P w K mg base CX0 1 TX.a_L_is_int TX.fd_L_is_int ["_law_thing"] (sp_L_is_int K) := by
  refine TX.f_L_is_int.ok sc_L_is_int (fun vs H Q E h => ?_) (fun cdv A outer s H vs Q E hr h => ?_)
  · obtain ⟨x, d, rfl, _⟩ := h; rfl
  · obtain ⟨x, d, rfl, hq, q⟩ := h
    refine ⟨_, (pss_one (ps_ret (pe_and (pe_callB (id := "isinstance") (k_isi (K := K) rfl) (by rfl) TX.b_isinstance (by decide +kernel) (pa_cons (pv 0) (pa_cons (pe_bltn (v := .ty "int") (by rfl) TX.b_int (by decide +kernel) rfl) pa_nil))) (pe_one (pe_not (pe_callB (id := "isinstance") (k_isi (K := K) rfl) (by rfl) TX.b_isinstance (by decide +kernel) (pa_cons (pv 0) (pa_cons (pe_bltn (v := .ty "bool") (by rfl) TX.b_bool (by decide +kernel) rfl) pa_nil)))))))), ?_⟩
    obtain ⟨T, b1, b2, hT, h1, h2, hb⟩ := intD_ty hq
    rw [← hb] at q
    refine ⟨x, rfl, x, .ty "int", .type T, .type "int", b1, rfl, .ty _, hT, kit_ty h1, b1, rfl, ?_⟩
    cases b1 with
    | false => exact iteF q
    | true => exact iteT ⟨x, rfl, x, .ty "bool", .type T, .type "bool", b2, rfl, .ty _, hT, kit_ty h2, b2, rfl, q⟩
end
section
variable {P : Program} {w : World} {K : PySem.W.Frag} {mg : Str → Option Value} {base : Heap}
def sp_L_has_shape (K : PySem.W.Frag) : Sp := fun vs H Q _ => ∃ (x : V) (d : PyData) (n : Nat), vs = [.int (n : Int), x] ∧ Dq K H x d ∧ n ≤ 100 ∧ ∀ H', Same H H' → Q (.bl (shpD n d)) H'
theorem ok_L_has_shape (TX : Tx K mg) : FnOk P w K mg base CX0 1 TX.a_L_has_shape TX.fd_L_has_shape ["_law_count", "_law_thing"] (sp_L_has_shape K) := by
  refine TX.f_L_has_shape.ok sc_L_has_shape (fun vs H Q E h => ?_) (fun cdv A outer s H vs Q E hr h => ?_)
  · obtain ⟨x, d, n, rfl, _⟩ := h; rfl
  · obtain ⟨x, d, n, rfl, hq, hn, q⟩ := h
    refine ⟨_, (pss_cons (ps_if (PW.pt (pw_or (pt_not (pt_val (pe_callB (id := "isinstance") (k_isi (K := K) rfl) (by rfl) TX.b_isinstance (by decide +kernel) (pa_cons (pv 1) (pa_cons (pe_bltn (v := .ty "tuple") (by rfl) TX.b_tuple (by decide +kernel) rfl) pa_nil))))) (pw_or1 (pt_cmpR op_ne (pe_callB (id := "len") (k_len (K := K) rfl) (by rfl) TX.b_len (by decide +kernel) (pa_cons (pv 1) pa_nil)) (pe_op op_add (pv 0) pe_int) (nomark _)))))
        (pss_one (ps_ret pe_bl))
        pss_nil)
      (pss_one (ps_ret (pe_callB (id := "all") (cr_all rfl) (by rfl) TX.b_all (by decide +kernel) (pa_cons (pe_lc (own := [("_law_i", 2), ("_law_row", 3)]) (by rfl) sc_L_has_shape.nd (pi_enumT (by rfl) TX.b_enumerate (pa_cons (pv 1) pa_nil)) (blkOk_by (own := [("_law_i", 2), ("_law_row", 3)]) (N := N_L_has_shape) (sc := defScope s_L_has_shape) (by decide +kernel)) (fun _ _ _ _ _ => (k_pgT2 (K := K) rfl rfl (pg_name (i := 2) sc_L_has_shape.nd rfl (Or.inl rfl)) (pg_name (i := 3) sc_L_has_shape.nd rfl (Or.inl rfl)))) (fun _ _ _ _ _ => pts_nil) (fun _ _ _ _ _ => (pe_and (pe_callB (id := "isinstance") (k_isi (K := K) rfl) (by rfl) TX.b_isinstance (by decide +kernel) (pa_cons (pv 3) (pa_cons (pe_bltn (v := .ty "tuple") (by rfl) TX.b_tuple (by decide +kernel) rfl) pa_nil))) (pe_one (pe_cmpR op_eq (pe_callB (id := "len") (k_len (K := K) rfl) (by rfl) TX.b_len (by decide +kernel) (pa_cons (pv 3) pa_nil)) (pe_op op_sub (pe_op op_add (pv 0) pe_int) (pv 2)) (nomark _)))))) pa_nil))))), ?_⟩
    obtain ⟨T, hT, hkT⟩ := tup_ty hq
    refine ⟨x, rfl, x, .ty "tuple", .type T, .type "tuple", isTup d, rfl, .ty _, hT, kit_ty hkT, isTup d, rfl, ?_⟩
    unfold shpD at q
    by_cases ht : isTup d = true
    rotate_left
    · have ht' : isTup d = false := by simpa using ht
      rw [ht'] at q ⊢
      refine iteT ?_
      exact q _ (Same.refl _)
    rw [ht] at q ⊢
    refine iteF ?_
    obtain ⟨a, xs, ds, rfl, rfl, hS, hA⟩ := isTup_inv hq ht
    have hl := hA.len
    have q' : ∀ H', Same H H' → Q (.bl (decide (ds.length = n + 1) && shpR n 0 ds)) H' := fun H' s' => q H' s'
    refine ⟨.ref a, rfl, a, _, rfl, .inr hS, _, rfl, _, _, rfl, rfl, rfl, _, rfl, ?_⟩
    by_cases hlen : ds.length = n + 1
    rotate_left
    · refine iteB1 ?_ ?_
      · simp only [Bool.not_eq_true', decide_eq_false_iff_not]
        intro z
        have := V.int.inj z
        omega
      · have := q' H (Same.refl _)
        rw [decide_eq_false hlen, Bool.false_and] at this
        exact this
    refine iteB0 (by rw [hl, hlen]; simp) ?_
    rw [decide_eq_true hlen] at q'
    refine ⟨.ref a, rfl, a, xs, rfl, hS, fun D nD => ?_⟩
    refine lc_all (K := K) (walk_enumT (xs := xs)) ((shpB n 0 ds).map PyData.bool) (by rw [List.length_map, shpB_len, hl]) (fun d h => by obtain ⟨b, _, rfl⟩ := List.mem_map.mp h; exact .bl b) (by omega) nD (fun H' s' => Same.tup s' hS) ?_ ?_ mono_pair (fun σ' H' Q Q' h => h _ _)
    · rintro i y Hx Hx' hi sx ⟨Tu, x1, x2, rfl, nT, rfl, e1, e2⟩ d hd R hR
      dsimp only at e1 e2
      cases e1
      obtain ⟨e, he, hqe⟩ := hA.at e2
      rw [List.getElem?_map, shpB_at he] at hd
      cases hd
      have t1 := same_upd (o := .tup [V.int ((i : Nat) : Int), x2]) nT
      have hqe' := Dq.same (sx.trans t1) hqe
      obtain ⟨T2, hT2, hkT2⟩ := tup_ty hqe'
      refine ⟨Tu, _, rfl, .inl (.inl upd_same), rfl, _, _, rfl, _, _, rfl, rfl, rfl, rfl, x2, rfl, x2, .ty "tuple", .type T2, .type "tuple", isTup e, rfl, .ty _, hT2, kit_ty hkT2, isTup e, rfl, ?_⟩
      by_cases ht2 : isTup e = true
      rotate_left
      · have ht3 : isTup e = false := by simpa using ht2
        rw [ht3] at hR ⊢
        exact iteF (hR _ _ t1 (.bl false))
      rw [ht2] at hR ⊢
      refine iteT ?_
      obtain ⟨c, ys, es, rfl, rfl, hS2, hA2⟩ := isTup_inv hqe' ht2
      refine ⟨.ref c, rfl, c, ys, rfl, .inr hS2, _, rfl, _, _, rfl, rfl, _, rfl, _, _, rfl, rfl, rfl, ?_⟩
      have hl2 := hA2.len
      have e3 : decide (V.int (ys.length : Int) = V.int ((n : Int) + 1 - ((i : Nat) : Int))) = decide ((itemsD (.tuple es)).length + (0 + i) = n + 1) := by
        refine decide_eq_decide.mpr ⟨fun z => ?_, fun z => ?_⟩
        · have := V.int.inj z
          show es.length + (0 + i) = n + 1
          omega
        · have z' : es.length + (0 + i) = n + 1 := z
          congr 1; omega
      rw [e3]
      exact hR _ _ t1 (.bl _)
    · intro H5 acc s5 ha hA5
      rw [dpBoolsI hA5] at ha
      refine ⟨D, shpB n 0 ds, rfl, .inl (.inl ha), ?_⟩
      rw [shpB_all]
      exact q' _ s5
end
/-! ### grids of tables of bounds, of values of any kind -/
theorem shpR_at {n : Nat} : ∀ {ds : List PyData} {i j : Nat} {e : PyData}, shpR n i ds = true → ds[j]? = some e → isTup e = true ∧ (itemsD e).length + (i + j) = n + 1
  | _ :: ds, i, 0, e, h, he => by
    cases he
    simp only [shpR, Bool.and_eq_true, decide_eq_true_eq] at h
    exact ⟨h.1.1, by omega⟩
  | x :: ds, i, j + 1, e, h, he => by
    simp only [shpR, Bool.and_eq_true, decide_eq_true_eq] at h
    obtain ⟨h1, h2⟩ := shpR_at (ds := ds) (i := i + 1) (j := j) h.2 he
    exact ⟨h1, by omega⟩
def isBndD : PyData → Bool
  | .none => true
  | .int _ => true
  | _ => false
def numO : PyData → Option Int
  | .int i => some i
  | _ => none
def tabO (d : PyData) (i m : Nat) : Option Int := numO ((itemsD ((itemsD d).getD i .none)).getD m .none)
def bndsD (d : PyData) : Bool := (itemsD d).all fun e => (itemsD e).all isBndD
theorem bnd_dO {x : PyData} (h : isBndD x = true) : x = dO (numO x) := by
  cases x with
  | none => rfl
  | int i => rfl
  | bool b => cases h
  | str s => cases h
  | list l => cases h
  | tuple l => cases h
  | dict l => cases h
theorem tup_eq {d : PyData} (h : isTup d = true) : d = .tuple (itemsD d) := by
  cases d with
  | tuple l => rfl
  | none => cases h
  | int i => cases h
  | bool b => cases h
  | str s => cases h
  | list l => cases h
  | dict l => cases h
theorem shp_tabO {n : Nat} {d : PyData} (h : shpD n d = true) (hi : bndsD d = true) : d = dTabO (tabO d) n := by
  unfold shpD at h
  simp only [Bool.and_eq_true, decide_eq_true_eq] at h
  obtain ⟨ht, hl, hr⟩ := h
  rw [tup_eq ht] at hl hr hi ⊢
  generalize itemsD d = ds at hl hr hi ⊢
  have hl' : ds.length = n + 1 := hl
  have hr' : shpR n 0 ds = true := hr
  unfold dTabO
  congr 1
  refine List.ext_getElem? fun i => ?_
  by_cases hin : i < n + 1
  · obtain ⟨e, he⟩ : ∃ e, ds[i]? = some e := ⟨_, List.getElem?_eq_getElem (by omega)⟩
    obtain ⟨h1, h2⟩ := shpR_at hr' he
    rw [he, List.getElem?_map, List.getElem?_range hin]
    have hall := List.all_eq_true.mp hi e (List.mem_of_getElem? he)
    have hget : ds.getD i .none = e := by rw [List.getD_eq_getElem?_getD, he]; rfl
    rw [tup_eq h1] at h2 hall hget ⊢
    generalize itemsD e = es at h2 hall hget ⊢
    have h2' : es.length + (0 + i) = n + 1 := h2
    show some (PyData.tuple es) = some (PyData.tuple _)
    congr 2
    refine List.ext_getElem? fun m => ?_
    by_cases hm : i + m ≤ n
    · obtain ⟨x, hx⟩ : ∃ x, es[m]? = some x := ⟨_, List.getElem?_eq_getElem (by omega)⟩
      have hxi := List.all_eq_true.mp hall x (List.mem_of_getElem? hx)
      rw [hx, List.getElem?_map, rowO_at hm]
      have hnum : tabO (.tuple ds) i m = numO x := by
        unfold tabO
        show numO ((itemsD (ds.getD i .none)).getD m .none) = _
        rw [hget]
        show numO (es.getD m .none) = _
        rw [List.getD_eq_getElem?_getD, hx]; rfl
      rw [hnum]
      exact congrArg some (bnd_dO hxi)
    · rw [List.getElem?_eq_none (by omega), List.getElem?_eq_none (by rw [List.length_map, rowO_len]; omega)]
  · rw [List.getElem?_eq_none (by omega), List.getElem?_eq_none (by simp; omega)]
theorem dqAll_map {K : PySem.W.Frag} {H : Hp} {α : Type} {f : α → PyData} : ∀ {l : List α} {xs : List V}, (∀ a ∈ l, ∀ x, Dq K H x (f a) → Dp K H x (f a)) → DqAll K H xs (l.map f) → DpAll K H xs (l.map f)
  | [], _, _, .nil => .nil
  | a :: l, _, h, .cons p q => .cons (h a (.head _) _ p) (dqAll_map (l := l) (fun b hb => h b (.tail _ hb)) q)
theorem dq_tabO {K : PySem.W.Frag} {H : Hp} {x : V} {T : Nat → Nat → Option Int} {n : Nat} (h : Dq K H x (dTabO T n)) : Dp K H x (dTabO T n) := by
  unfold dTabO at h ⊢
  cases h with
  | tupq hs ha =>
    refine .tup hs (dqAll_map (fun i _ y hy => ?_) ha)
    unfold dRowO at hy ⊢
    cases hy with
    | tupq hs2 ha2 =>
      refine .tup hs2 (dqAll_map (fun o _ z hz => ?_) ha2)
      cases o with
      | none => cases hz; exact .non
      | some i => cases hz; exact .int _
def nnB (n l : Nat) (T : Nat → Nat → Option Int) : Bool := (List.range (n + 1)).all fun i => (List.range (n + 1 - i)).all fun m => (T i m).isNone == decide (l < m)
def hbD (n l : Nat) (d : PyData) : Bool := shpD n d && (bndsD d && nnB n l (tabO d))
def gridD (k c : Nat) (d : PyData) : Bool := isTup d && (decide ((itemsD d).length = k + 1) && (itemsD d).all fun r => isTup r && decide ((itemsD r).length = c + 1))
def cellD (d : PyData) (b a : Nat) : PyData := (itemsD ((itemsD d).getD b .none)).getD a .none
theorem grid_cell {K : PySem.W.Frag} {H : Hp} {v : V} {d : PyData} {k c b a : Nat} (h : Dq K H v d) (g : gridD k c d = true) (hb : b ≤ k) (ha : a ≤ c) :
    ∃ p xs r ys x, v = .ref p ∧ SqT K H p xs ∧ xs[b]? = some (.ref r) ∧ SqT K H r ys ∧ ys[a]? = some x ∧ Dq K H x (cellD d b a) ∧ xs.length = k + 1 ∧ ys.length = c + 1 := by
  unfold gridD at g
  simp only [Bool.and_eq_true, decide_eq_true_eq] at g
  obtain ⟨g1, g2, g3⟩ := g
  obtain ⟨p, xs, ds, rfl, rfl, hS, hA⟩ := isTup_inv h g1
  have g2' : ds.length = k + 1 := g2
  obtain ⟨e, he⟩ : ∃ e, ds[b]? = some e := ⟨_, List.getElem?_eq_getElem (by omega)⟩
  have g4 := List.all_eq_true.mp g3 e (List.mem_of_getElem? he)
  simp only [Bool.and_eq_true, decide_eq_true_eq] at g4
  obtain ⟨x, hx, hq⟩ := DqAll.get hA he
  obtain ⟨r, ys, es, rfl, rfl, hR, hB⟩ := isTup_inv hq g4.1
  have g5 : es.length = c + 1 := g4.2
  obtain ⟨z, hz⟩ : ∃ z, es[a]? = some z := ⟨_, List.getElem?_eq_getElem (by omega)⟩
  obtain ⟨y, hy, hqy⟩ := DqAll.get hB hz
  have e1 : cellD (.tuple ds) b a = z := by
    unfold cellD
    show (itemsD (ds.getD b .none)).getD a .none = z
    have : ds.getD b .none = .tuple es := by rw [List.getD_eq_getElem?_getD, he]; rfl
    rw [this]
    show es.getD a .none = z
    rw [List.getD_eq_getElem?_getD, hz]; rfl
  exact ⟨p, xs, r, ys, y, rfl, hS, hx, hR, hy, by rw [e1]; exact hqy, by rw [hA.len]; exact g2', by rw [hB.len]; exact g5⟩
section
variable {P : Program} {w : World} {K : PySem.W.Frag} {mg : Str → Option Value} {base : Heap}
def sp_is_bound (K : PySem.W.Frag) : Sp := fun vs H Q _ => ∃ (x : V) (d : PyData), vs = [x] ∧ Dq K H x d ∧ Q (.bl (isBndD d)) H
theorem ok_is_bound (TX : Tx K mg) : FnOk P w K mg base CX0 2 TX.a_is_bound TX.fd_is_bound ["value"] (sp_is_bound K) := by
  refine TX.f_is_bound.ok sc_is_bound (fun vs H Q E h => ?_) (fun cdv A outer s H vs Q E hr h => ?_)
  · obtain ⟨x, d, rfl, _⟩ := h; rfl
  · obtain ⟨x, d, rfl, hq, q⟩ := h
    refine ⟨_, (pss_one (ps_ret (pe_or (pe_cmpR op_isN (pv 0) pe_non (nomark _)) (pe_one (pe_call (ok_is_intD TX) (hr.mono (by decide)) (by rfl) TX.g_is_int TX.f_is_int.kp TX.bd_is_int .nil pass0 (pa_cons (pv 0) pa_nil)))))), ?_⟩
    obtain ⟨T, b1, b2, hT, h1, h2, hb⟩ := intD_ty hq
    have fin : ∀ Q' : VK, isBndD d = isIntD d → Q' (.bl (isBndD d)) H → sp_is_intD K [x] H Q' E0 := fun Q' e h => ⟨x, T, b1, b2, rfl, hT, h1, h2, by rw [hb, ← e]; exact h⟩
    cases hq with
    | nonq => exact ⟨_, rfl, rfl, _, rfl, iteB1 (by simp) q⟩
    | blq b => exact ⟨_, rfl, rfl, _, rfl, iteB0 (by simp) ⟨_, rfl, fin _ rfl q⟩⟩
    | intq b => exact ⟨_, rfl, rfl, _, rfl, iteB0 (by simp) ⟨_, rfl, fin _ rfl q⟩⟩
    | strq b => exact ⟨_, rfl, rfl, _, rfl, iteB0 (by simp) ⟨_, rfl, fin _ rfl q⟩⟩
    | lstq _ _ _ => exact ⟨_, rfl, rfl, _, rfl, iteB0 (by simp) ⟨_, rfl, fin _ rfl q⟩⟩
    | tupq _ _ => exact ⟨_, rfl, rfl, _, rfl, iteB0 (by simp) ⟨_, rfl, fin _ rfl q⟩⟩
    | dctq _ _ _ => exact ⟨_, rfl, rfl, _, rfl, iteB0 (by simp) ⟨_, rfl, fin _ rfl q⟩⟩
def sp_is_grid (K : PySem.W.Frag) : Sp := fun vs H Q _ => ∃ (v : V) (d : PyData) (k c : Nat), vs = [v, .int (k : Int), .int (c : Int)] ∧ Dq K H v d ∧ k ≤ 60 ∧ c ≤ 60 ∧ ∀ H', Same H H' → Q (.bl (gridD k c d)) H'
theorem ok_is_grid (TX : Tx K mg) : FnOk P w K mg base CX0 1 TX.a_is_grid TX.fd_is_grid ["value", "k", "c"] (sp_is_grid K) := by
  refine TX.f_is_grid.ok sc_is_grid (fun vs H Q E h => ?_) (fun cdv A outer s H vs Q E hr h => ?_)
  · obtain ⟨v, d, k, c, rfl, _⟩ := h; rfl
  · obtain ⟨v, d, k, c, rfl, hq, hk, hc, q⟩ := h
    refine ⟨_, (pss_cons (ps_if (PW.pt (pw_or (pt_not (pt_val (pe_callB (id := "isinstance") (k_isi (K := K) rfl) (by rfl) TX.b_isinstance (by decide +kernel) (pa_cons (pv 0) (pa_cons (pe_bltn (v := .ty "tuple") (by rfl) TX.b_tuple (by decide +kernel) rfl) pa_nil))))) (pw_or1 (pt_cmpR op_ne (pe_callB (id := "len") (k_len (K := K) rfl) (by rfl) TX.b_len (by decide +kernel) (pa_cons (pv 0) pa_nil)) (pe_op op_add (pv 1) pe_int) (nomark _)))))
        (pss_one (ps_ret pe_bl))
        pss_nil)
      (pss_one (ps_ret (pe_callB (id := "all") (cr_all rfl) (by rfl) TX.b_all (by decide +kernel) (pa_cons (pe_lc (own := [("row", 3)]) (by rfl) sc_is_grid.nd (k_piT (K := K) rfl (pv 0)) (blkOk_by (own := [("row", 3)]) (N := N_is_grid) (sc := defScope s_is_grid) (by decide +kernel)) (fun _ _ _ _ _ => (pg_name (i := 3) sc_is_grid.nd rfl (Or.inl rfl))) (fun _ _ _ _ _ => pts_nil) (fun _ _ _ _ _ => (pe_and (pe_callB (id := "isinstance") (k_isi (K := K) rfl) (by rfl) TX.b_isinstance (by decide +kernel) (pa_cons (pv 3) (pa_cons (pe_bltn (v := .ty "tuple") (by rfl) TX.b_tuple (by decide +kernel) rfl) pa_nil))) (pe_one (pe_cmpR op_eq (pe_callB (id := "len") (k_len (K := K) rfl) (by rfl) TX.b_len (by decide +kernel) (pa_cons (pv 3) pa_nil)) (pe_op op_add (pv 2) pe_int) (nomark _)))))) pa_nil))))), ?_⟩
    obtain ⟨T, hT, hkT⟩ := tup_ty hq
    refine ⟨v, rfl, v, .ty "tuple", .type T, .type "tuple", isTup d, rfl, .ty _, hT, kit_ty hkT, isTup d, rfl, ?_⟩
    unfold gridD at q
    by_cases ht : isTup d = true
    rotate_left
    · have ht' : isTup d = false := by simpa using ht
      rw [ht'] at q ⊢
      exact iteT (q _ (Same.refl _))
    rw [ht] at q ⊢
    refine iteF ?_
    obtain ⟨a, xs, ds, rfl, rfl, hS, hA⟩ := isTup_inv hq ht
    have hl := hA.len
    have q' : ∀ H', Same H H' → Q (.bl (decide (ds.length = k + 1) && ds.all fun r => isTup r && decide ((itemsD r).length = c + 1))) H' := fun H' s' => q H' s'
    refine ⟨.ref a, rfl, a, _, rfl, .inr hS, _, rfl, _, _, rfl, rfl, rfl, _, rfl, ?_⟩
    by_cases hlen : ds.length = k + 1
    rotate_left
    · refine iteB1 ?_ ?_
      · simp only [Bool.not_eq_true', decide_eq_false_iff_not]
        intro z
        have := V.int.inj z
        omega
      · have := q' H (Same.refl _)
        rw [decide_eq_false hlen, Bool.false_and] at this
        exact this
    refine iteB0 (by rw [hl, hlen]; simp) ?_
    rw [decide_eq_true hlen] at q'
    refine ⟨.ref a, rfl, a, rfl, ⟨_, hS⟩, fun D nD => ?_⟩
    refine lc_bools (K := K) (walk_tup (xs := xs)) (ds.map fun r => isTup r && decide ((itemsD r).length = c + 1)) (by rw [List.length_map, hl]) (by omega) nD (fun H' s' => Same.tup s' hS) ?_ ?_ (fun x σ' H' Q Q' h => h _ _) (fun σ' H' Q Q' h => h _ _)
    · rintro i y Hx Hx' hi sx ⟨rfl, hy⟩ b hb R hR
      obtain ⟨e, he, hqe⟩ := hA.at hy
      rw [List.getElem?_map, he] at hb
      cases hb
      have hqe' := Dq.same sx hqe
      replace hR : ∀ H4, Same Hx' H4 → R (V.bl (isTup e && decide ((itemsD e).length = c + 1))) H4 := hR
      obtain ⟨T2, hT2, hkT2⟩ := tup_ty hqe'
      refine ⟨rfl, rfl, y, rfl, y, .ty "tuple", .type T2, .type "tuple", isTup e, rfl, .ty _, hT2, kit_ty hkT2, isTup e, rfl, ?_⟩
      by_cases ht2 : isTup e = true
      rotate_left
      · have ht3 : isTup e = false := by simpa using ht2
        rw [ht3] at hR ⊢
        exact iteF (hR _ (Same.refl _))
      rw [ht2] at hR ⊢
      refine iteT ?_
      obtain ⟨r, ys, es, rfl, rfl, hS2, hA2⟩ := isTup_inv hqe' ht2
      refine ⟨.ref r, rfl, r, ys, rfl, .inr hS2, _, rfl, _, _, rfl, rfl, rfl, ?_⟩
      have hl2 := hA2.len
      have e3 : decide (V.int (ys.length : Int) = V.int ((c : Int) + 1)) = decide ((itemsD (.tuple es)).length = c + 1) := by
        refine decide_eq_decide.mpr ⟨fun z => ?_, fun z => ?_⟩
        · have := V.int.inj z
          show es.length = c + 1
          omega
        · have z' : es.length = c + 1 := z
          congr 1; omega
      rw [e3]
      exact hR _ (Same.refl _)
    · intro H5 s5 ha
      refine ⟨D, _, rfl, .inl (.inl ha), ?_⟩
      rw [List.all_map]
      exact q' _ s5
def sp_has_bounds (K : PySem.W.Frag) : Sp := fun vs H Q _ => ∃ (v : V) (d : PyData) (n l : Nat), vs = [v, .int (n : Int), .int (l : Int)] ∧ Dq K H v d ∧ n ≤ 60 ∧ ∀ H', Same H H' → Q (.bl (hbD n l d)) H'
theorem ok_has_bounds (TX : Tx K mg) : FnOk P w K mg base CX0 3 TX.a_has_bounds TX.fd_has_bounds ["value", "n", "longest"] (sp_has_bounds K) := by
  refine TX.f_has_bounds.ok sc_has_bounds (fun vs H Q E h => ?_) (fun cdv A outer s H vs Q E hr h => ?_)
  · obtain ⟨v, d, n, l, rfl, _⟩ := h; rfl
  · obtain ⟨v, d, n, l, rfl, hq, hn, q⟩ := h
    refine ⟨_, (pss_cons (ps_if (PW.pt (pw_or (pt_not (pt_val (pe_call (ok_has_shape TX) (hr.mono (by decide)) (by rfl) TX.g_has_shape TX.f_has_shape.kp TX.bd_has_shape .nil pass0 (pa_cons (pv 0) (pa_cons (pv 1) pa_nil))))) (pw_or1 (pt_not (pt_val (pe_callB (id := "all") (cr_all rfl) (by rfl) TX.b_all (by decide +kernel) (pa_cons (pe_lc2 (own := [("row", 3), ("bound", 5)]) (vs1 := [5]) (by rfl) sc_has_bounds.nd (k_piT (K := K) rfl (pv 0)) (blkOk_by (own := [("row", 3), ("bound", 5)]) (N := N_has_bounds) (sc := defScope s_has_bounds) (by decide +kernel)) (by decide) (fun _ _ _ _ _ => (pg_name (i := 3) sc_has_bounds.nd rfl (Or.inl rfl))) (fun _ _ _ _ _ => pts_nil) (fun _ _ _ _ _ => (k_piT (K := K) rfl (pv 3))) (fun _ _ _ _ _ => (pg_name (i := 5) sc_has_bounds.nd rfl (Or.inl rfl))) (fun _ _ _ _ _ => pts_nil) (fun _ _ _ _ _ => (pe_call (ok_is_bound TX) (hr.mono (by decide)) (by rfl) TX.g_is_bound TX.f_is_bound.kp TX.bd_is_bound .nil pass0 (pa_cons (pv 5) pa_nil)))) pa_nil)))))))
        (pss_one (ps_ret pe_bl))
        pss_nil)
      (pss_one (ps_ret (pe_callB (id := "all") (cr_all rfl) (by rfl) TX.b_all (by decide +kernel) (pa_cons (pe_lc2 (own := [("row", 3), ("flushes", 4), ("bound", 5)]) (vs1 := [4, 5]) (by rfl) sc_has_bounds.nd (k_piT (K := K) rfl (pv 0)) (blkOk_by (own := [("row", 3), ("flushes", 4), ("bound", 5)]) (N := N_has_bounds) (sc := defScope s_has_bounds) (by decide +kernel)) (by decide) (fun _ _ _ _ _ => (pg_name (i := 3) sc_has_bounds.nd rfl (Or.inl rfl))) (fun _ _ _ _ _ => pts_nil) (fun _ _ _ _ _ => (k_enumT (K := K) rfl (by rfl) TX.b_enumerate (pa_cons (pv 3) pa_nil))) (fun _ _ _ _ _ => (k_pgT2 (K := K) rfl rfl (pg_name (i := 4) sc_has_bounds.nd rfl (Or.inl rfl)) (pg_name (i := 5) sc_has_bounds.nd rfl (Or.inl rfl)))) (fun _ _ _ _ _ => pts_nil) (fun _ _ _ _ _ => (pe_cmpR op_eq (pe_cmpR op_isN (pv 5) pe_non (nomark _)) (pe_cmpR op_gt (pv 4) (pv 2) (nomark _)) (nomark _)))) pa_nil))))), ?_⟩
    refine ⟨v, rfl, _, rfl, v, d, n, rfl, hq, by omega, fun H1 s1 => ⟨shpD n d, rfl, ?_⟩⟩
    unfold hbD at q
    by_cases hshp : shpD n d = true
    rotate_left
    · have hs' : shpD n d = false := by simpa using hshp
      rw [hs'] at q ⊢
      exact iteT (iteT (q _ s1))
    rw [hshp] at q ⊢
    refine iteF ?_
    have hq1 := Dq.same s1 hq
    have hshp2 := hshp
    unfold shpD at hshp2
    simp only [Bool.and_eq_true, decide_eq_true_eq] at hshp2
    obtain ⟨ht, hl0, hr0⟩ := hshp2
    obtain ⟨av, xs, ds, rfl, rfl, hS, hA⟩ := isTup_inv hq1 ht
    have hl1 : ds.length = n + 1 := hl0
    have hl := hA.len
    have hr1 : shpR n 0 ds = true := hr0
    refine ⟨.ref av, rfl, av, rfl, ⟨_, hS⟩, fun D nD => ?_⟩
    have rowlen : ∀ j : Nat, (itemsD (ds.getD j .none)).length ≤ 61 := fun j => by
      by_cases hj : j < ds.length
      · have he := List.getElem?_eq_getElem hj
        have e1 : ds.getD j .none = ds[j] := by rw [List.getD_eq_getElem?_getD, he]; rfl
        rw [e1]
        have := (shpR_at hr1 he).2
        omega
      · have e1 : ds.getD j .none = .none := by rw [List.getD_eq_getElem?_getD, List.getElem?_eq_none (by omega)]; rfl
        rw [e1]; simp [itemsD]
    refine lc2_out (K := K) (walk_tup (xs := xs)) (fun i => ((itemsD (ds.getD i .none)).map isBndD).map PyData.bool) nD (fun H' s' => Same.tup s' hS) ?_ ?_
    · rintro i x Hx Hx' hi ax ⟨rfl, hx⟩ Nx hN
      obtain ⟨e, he, hqe⟩ := hA.at hx
      have hin : i < ds.length := (List.getElem?_eq_some_iff.mp he).1
      have e1 : ds.getD i .none = e := by rw [List.getD_eq_getElem?_getD, he]; rfl
      rw [e1] at hN
      have hrl := rowlen i
      rw [e1] at hrl
      obtain ⟨c, ys, es, rfl, rfl, hC, hAe⟩ := isTup_inv hqe (shpR_at hr1 he).1
      have hyl := hAe.len
      have hrl' : es.length ≤ 61 := hrl
      have hbl := blks_len_le (f := fun i => ((itemsD (ds.getD i .none)).map isBndD).map PyData.bool) (c := 101) i fun j hj => by
        have := rowlen j
        rw [List.length_map, List.length_map]; omega
      refine ⟨rfl, yesT ?_⟩
      refine ⟨.ref c, rfl, c, rfl, ⟨_, Same.tup ax.1 hC⟩, ?_⟩
      refine lc2_in (K := K) (walk_tup (xs := ys)) (blks (fun i => ((itemsD (ds.getD i .none)).map isBndD).map PyData.bool) i) ((es.map isBndD).map PyData.bool) (by rw [List.length_map, List.length_map, hyl]) (fun d hd => ?_) (fun d hd => by obtain ⟨b, _, rfl⟩ := List.mem_map.mp hd; exact .bl b) (by omega) nD ax (fun H' s' => Same.tup s' hC) ?_ hN (fun x σ' H' Q Q' h => h _ _) (fun σ' H' Q Q' h => h _ _)
      · obtain ⟨j, _, hd⟩ := mem_blks hd
        obtain ⟨b, _, rfl⟩ := List.mem_map.mp hd
        exact .bl b
      · rintro m y Hy Hy' hm sy ⟨rfl, hy⟩ d hd R hR
        obtain ⟨z, hz, hqz⟩ := hAe.at hy
        rw [List.getElem?_map, List.getElem?_map, hz] at hd
        cases hd
        exact ⟨rfl, rfl, _, rfl, y, z, rfl, Dq.same sy hqz, hR _ _ (Same.refl _) (.bl _)⟩
    intro H2 acc s2 ha hA2
    have eb : ∀ k, blks (fun i => ((itemsD (ds.getD i .none)).map isBndD).map PyData.bool) k = ((List.range k).flatMap fun i => (itemsD (ds.getD i .none)).map isBndD).map PyData.bool := fun k => by
      unfold blks
      rw [List.map_flatMap]
    rw [eb] at hA2
    rw [dpBoolsI hA2] at ha
    have eall : ((List.range xs.length).flatMap fun i => (itemsD (ds.getD i .none)).map isBndD).all id = bndsD (.tuple ds) := by
      rw [hl, Bool.eq_iff_iff, List.all_eq_true]
      unfold bndsD
      rw [List.all_eq_true]
      refine ⟨fun h e he => ?_, fun h b hb => ?_⟩
      · obtain ⟨j, hj⟩ := List.mem_iff_getElem?.mp (show e ∈ ds from he)
        have hjl := (List.getElem?_eq_some_iff.mp hj).1
        rw [List.all_eq_true]
        intro x hx
        have e1 : ds.getD j .none = e := by rw [List.getD_eq_getElem?_getD, hj]; rfl
        exact h (isBndD x) (List.mem_flatMap.mpr ⟨j, List.mem_range.mpr hjl, by rw [e1]; exact List.mem_map.mpr ⟨x, hx, rfl⟩⟩)
      · obtain ⟨j, hj, hb⟩ := List.mem_flatMap.mp hb
        obtain ⟨x, hx, rfl⟩ := List.mem_map.mp hb
        have hjl := List.mem_range.mp hj
        have he := List.getElem?_eq_getElem hjl
        have e1 : ds.getD j .none = ds[j] := by rw [List.getD_eq_getElem?_getD, he]; rfl
        rw [e1] at hx
        exact List.all_eq_true.mp (h ds[j] (List.getElem_mem hjl)) x hx
    refine ⟨D, _, rfl, .inl (.inl ha), ?_⟩
    rw [eall]
    by_cases hbd : bndsD (.tuple ds) = true
    rotate_left
    · have hb' : bndsD (.tuple ds) = false := by simpa using hbd
      rw [hb'] at q ⊢
      exact ⟨false, rfl, iteT (q _ (s1.trans s2))⟩
    rw [hbd] at q ⊢
    refine ⟨true, rfl, iteF ?_⟩
    have etab := shp_tabO hshp hbd
    obtain ⟨B, eB⟩ : ∃ B, B = tabO (.tuple ds) := ⟨_, rfl⟩
    rw [← eB] at etab q
    have hD2 : Dp K H2 (.ref av) (dTabO B n) := dq_tabO (by rw [← etab]; exact Dq.same s2 hq1)
    have q' : ∀ H', Same H H' → Q (.bl (nnB n l B)) H' := fun H' s' => q H' s'
    clear q eB etab hA hr0 hr1 hS hl1 hl0 hbd hshp eall hA2 ha rowlen eb hq1 hq ht nD
    obtain ⟨av', xs', e0, hS, hxl, hrow⟩ := tabO_row hD2
    cases e0
    refine ⟨.ref av, rfl, av, rfl, ⟨_, hS⟩, fun D2 nD2 => ?_⟩
    refine lc2_out (K := K) (walk_tup (xs := xs')) (fun i => ((List.range (n + 1 - i)).map fun m => (B i m).isNone == decide (l < m)).map PyData.bool) nD2 (fun H' s' => Same.tup s' hS) ?_ ?_
    · rintro i x Hx Hx' hi ax ⟨rfl, hx⟩ Nx hN
      have hi2 : i ≤ n := by omega
      obtain ⟨c, hc, hC⟩ := hrow i hi2
      rw [hx] at hc
      cases hc
      have hbl := blks_len_le (f := fun i => ((List.range (n + 1 - i)).map fun m => (B i m).isNone == decide (l < m)).map PyData.bool) (c := 101) i fun j hj => by simp; omega
      refine ⟨rfl, yesT ?_⟩
      refine ⟨.ref c, rfl, c, _, rfl, Same.tup ax.1 hC, ?_⟩
      refine lc2_in (K := K) (walk_enumT (xs := (rowO B n i).map ov)) (blks (fun i => ((List.range (n + 1 - i)).map fun m => (B i m).isNone == decide (l < m)).map PyData.bool) i) (((List.range (n + 1 - i)).map fun m => (B i m).isNone == decide (l < m)).map PyData.bool) (by simp [rowO_len]) (fun d hd => ?_) (fun d hd => by obtain ⟨b, _, rfl⟩ := List.mem_map.mp hd; exact .bl b) (by rw [List.length_map, rowO_len]; omega) nD2 ax (fun H' s' => Same.tup s' hC) ?_ hN mono_pair (fun σ' H' Q Q' h => h _ _)
      · obtain ⟨j, _, hd⟩ := mem_blks hd
        obtain ⟨b, _, rfl⟩ := List.mem_map.mp hd
        exact .bl b
      · rintro m y Hy Hy' hm sy ⟨T', x1, x2, rfl, nT, rfl, e1, e2⟩ d hd R hR
        dsimp only at e1 e2
        cases e1
        rw [List.length_map, rowO_len] at hm
        rw [List.getElem?_map, rowO_at (by omega)] at e2
        cases e2
        rw [List.getElem?_map, List.getElem?_map, List.getElem?_range hm] at hd
        cases hd
        refine ⟨T', _, rfl, .inl (.inl upd_same), rfl, _, _, rfl, _, _, rfl, rfl, rfl, rfl, _, rfl, rfl, _, rfl, _, rfl, _, _, rfl, rfl, rfl, ?_⟩
        have e : decide (V.bl (decide (ov (B i m) = V.non)) = V.bl (decide (((m : Nat) : Int) > ((l : Nat) : Int)))) = ((B i m).isNone == decide (l < m)) := by
          have e1 : decide (ov (B i m) = V.non) = (B i m).isNone := by cases B i m <;> simp [ov]
          have e2 : decide (((m : Nat) : Int) > ((l : Nat) : Int)) = decide (l < m) := decide_eq_decide.mpr ⟨fun h => by omega, fun h => by omega⟩
          rw [e1, e2]
          cases (B i m).isNone <;> cases decide (l < m) <;> rfl
        have h1 := hR (V.bl ((B i m).isNone == decide (l < m))) _ (same_upd (o := .tup [V.int ((m : Nat) : Int), ov (B i m)]) nT) (.bl _)
        rw [← e] at h1
        exact h1
    · intro H3 acc3 s3 ha3 hA3
      have eb : ∀ k, blks (fun i => ((List.range (n + 1 - i)).map fun m => (B i m).isNone == decide (l < m)).map PyData.bool) k = ((List.range k).flatMap fun i => (List.range (n + 1 - i)).map fun m => (B i m).isNone == decide (l < m)).map PyData.bool := fun k => by
        unfold blks
        rw [List.map_flatMap]
      rw [eb] at hA3
      rw [dpBoolsI hA3] at ha3
      refine ⟨D2, _, rfl, .inl (.inl ha3), ?_⟩
      have e9 : ((List.range xs'.length).flatMap fun i => (List.range (n + 1 - i)).map fun m => (B i m).isNone == decide (l < m)).all id = nnB n l B := by
        rw [hxl]
        unfold nnB
        rw [List.all_flatMap]
        refine congrArg (List.all _) (funext fun i => ?_)
        rw [List.all_map]; rfl
      rw [e9]
      exact q' _ ((s1.trans s2).trans s3)
end
section
variable {P : Program} {w : World} {K : PySem.W.Frag} {mg : Str → Option Value} {base : Heap}
def sp_intervals (K : PySem.W.Frag) : Sp := fun vs H Q _ => ∃ (n : Nat), vs = [.int (n : Int)] ∧ n ≤ 100 ∧ ∀ H' p us, Same H H' → H p = none → H' p = some (.lst us) → DpAll K H' us ((ivN n).map dIv) → Q (.ref p) H'
theorem ok_intervals (TX : Tx K mg) : FnOk P w K mg base CX0 1 TX.a_intervals TX.fd_intervals ["n"] (sp_intervals K) := by
  refine TX.f_intervals.ok sc_intervals (fun vs H Q E h => ?_) (fun cdv A outer s H vs Q E hr h => ?_)
  · obtain ⟨n, rfl, _⟩ := h; rfl
  · obtain ⟨n, rfl, hn, q⟩ := h
    refine ⟨_, (pss_one (ps_ret (pe_lc2 (own := [("start", 1), ("stop", 2)]) (vs1 := [2]) (by rfl) sc_intervals.nd (pi_range1 (by rfl) TX.b_range (pa_cons (pe_op op_add (pv 0) pe_int) pa_nil)) (blkOk_by (own := [("start", 1), ("stop", 2)]) (N := N_intervals) (sc := defScope s_intervals) (by decide +kernel)) (by decide) (fun _ _ _ _ _ => (pg_name (i := 1) sc_intervals.nd rfl (Or.inl rfl))) (fun _ _ _ _ _ => pts_nil) (fun _ _ _ _ _ => (pi_range2 (by rfl) TX.b_range (pa_cons (pv 1) (pa_cons (pe_op op_add (pv 0) pe_int) pa_nil)))) (fun _ _ _ _ _ => (pg_name (i := 2) sc_intervals.nd rfl (Or.inl rfl))) (fun _ _ _ _ _ => pts_nil) (fun _ _ _ _ _ => (pe_tup (pa_cons (pv 1) (pa_cons (pv 2) pa_nil))))))), ?_⟩
    have en : (((n : Int) + 1)).toNat = n + 1 := by omega
    refine ⟨_, rfl, _, _, rfl, rfl, _, rfl, by omega, by omega, fun D nD => ?_⟩
    refine lc2_out (K := K) walk_range (fun i => (List.range (n + 1 - i)).map fun m => dIv (i, m)) nD (fun _ _ => trivial) ?_ ?_
    · rintro i x Hx Hx' hi ax hy Nx hN
      obtain ⟨rfl, rfl⟩ := hy
      have hi2 : i ≤ n := by omega
      have ei : (0 : Int) + ((i : Nat) : Int) = ((i : Nat) : Int) := by omega
      dsimp only
      rw [ei]
      have en2 : ((n : Int) + 1 - ((i : Nat) : Int)).toNat = n + 1 - i := by omega
      have hbl := blks_len_le (f := fun i => (List.range (n + 1 - i)).map fun m => dIv (i, m)) (c := 101) i fun j hj => by simp; omega
      refine ⟨rfl, yesT ?_⟩
      refine ⟨_, rfl, _, rfl, _, _, rfl, rfl, _, _, rfl, ⟨by omega, by omega, by omega, by omega⟩, ?_⟩
      refine lc2_in (K := K) walk_range (blks (fun i => (List.range (n + 1 - i)).map fun m => dIv (i, m)) i) ((List.range (n + 1 - i)).map fun m => dIv (i, m)) (by simp) (fun d hd => ?_) (fun d hd => by obtain ⟨m, _, rfl⟩ := List.mem_map.mp hd; exact tf_dIv _) (by omega) nD ax (fun _ _ => trivial) ?_ hN (fun x σ' H' Q Q' h => h _ _) (fun σ' H' Q Q' h => h _ _)
      · obtain ⟨j, _, hd⟩ := mem_blks hd
        obtain ⟨m, _, rfl⟩ := List.mem_map.mp hd
        exact tf_dIv _
      · rintro m y Hy Hy' hm sy hy d hd R hR
        obtain ⟨rfl, rfl⟩ := hy
        have em : ((i : Nat) : Int) + ((m : Nat) : Int) = ((i + m : Nat) : Int) := by omega
        dsimp only
        rw [em]
        rw [List.getElem?_map, List.getElem?_range (by omega)] at hd
        cases hd
        refine ⟨rfl, rfl, _, rfl, _, rfl, sz60 (by simp), fun p np => hR _ _ (same_upd np) ?_⟩
        exact dp_dP (.inl (.inl upd_same))
    · intro H5 acc s5 ha hA5
      rw [en, ← ivN_blks] at hA5
      exact q _ D acc s5 nD ha hA5
end
/-! ### is_table_of, of grids of tables of bounds -/
def Tc (d : PyData) (b a : Nat) : Nat → Nat → Option Int := tabO (cellD d b a)
def TcL (d : PyData) (b a : Nat) : Nat → Nat → Option Int := if a = 0 then Tc d b a else Tc d b (a - 1)
def TcR (d : PyData) (b a : Nat) : Nat → Nat → Option Int := if b = 0 then Tc d b a else Tc d (b - 1) a
def low1 (S R : Nat → Int) (L Rt : Nat → Nat → Option Int) (i m : Nat) (x : Int) : Bool := if m = 0 then decide (x ≤ 0) else lowV x (wbo (L i) (fun k => Rt (i + k + 1) (m - 1 - k)) (cst S R i m) i m)
def lowO (S R : Nat → Int) (T L Rt : Nat → Nat → Option Int) (p : Nat × Nat) : Bool := match T p.1 p.2 with
  | none => true
  | some x => low1 S R L Rt p.1 p.2 x
def lowC (S R : Nat → Int) (T L Rt : Nat → Nat → Option Int) (n : Nat) : Bool := (ivN n).all (lowO S R T L Rt)
/-- a grid of tables of bounds -/
structure Good (k c n : Nat) (d : PyData) : Prop where
  grid : gridD k c d = true
  cell : ∀ b a, b ≤ k → a ≤ c → shpD n (cellD d b a) = true ∧ bndsD (cellD d b a) = true
theorem Good.at {K : PySem.W.Frag} {H : Hp} {v : V} {d : PyData} {k c n b a : Nat} (g : Good k c n d) (h : Dq K H v d) (hb : b ≤ k) (ha : a ≤ c) :
    ∃ p xs r ys t, v = .ref p ∧ SqT K H p xs ∧ xs[b]? = some (.ref r) ∧ SqT K H r ys ∧ ys[a]? = some (.ref t) ∧ Dp K H (.ref t) (dTabO (Tc d b a) n) := by
  obtain ⟨p, xs, r, ys, x, rfl, h1, h2, h3, h4, h5, _⟩ := grid_cell h g.grid hb ha
  obtain ⟨c1, c2⟩ := g.cell b a hb ha
  rw [shp_tabO c1 c2] at h5
  have h6 := dq_tabO h5
  obtain ⟨t, zs, rfl, _, _⟩ := Dp.tupInv h6
  exact ⟨p, xs, r, ys, t, rfl, h1, h2, h3, h4, h6⟩
theorem iv_len {n : Nat} (h : n ≤ 14) : (ivN n).length ≤ 1000 := by
  have := blks_len_le (f := fun i => (List.range (n + 1 - i)).map fun m => dIv (i, m)) (c := 15) (n + 1) fun j hj => by simp; omega
  rw [← ivN_blks, List.length_map] at this
  omega
theorem low_known {S R : Nat → Int} {T L Rt : Nat → Nat → Option Int} {n N : Nat} (hN : N = (ivN n).length) : (((List.range N).filter (fun j => match (ivN n)[j]? with | some pr => (T pr.1 pr.2).isSome | none => false)).map fun j => match (ivN n)[j]? with | some pr => lowO S R T L Rt pr | none => true).all id = lowC S R T L Rt n := by
  subst hN
  unfold lowC
  rw [Bool.eq_iff_iff, List.all_eq_true, List.all_eq_true]
  refine ⟨fun h p hp => ?_, fun h b hb => ?_⟩
  · obtain ⟨j, hj⟩ := List.mem_iff_getElem?.mp hp
    have hjl := (List.getElem?_eq_some_iff.mp hj).1
    cases e : T p.1 p.2 with
    | none => unfold lowO; rw [e]
    | some x =>
      have := h (lowO S R T L Rt p) (List.mem_map.mpr ⟨j, List.mem_filter.mpr ⟨List.mem_range.mpr hjl, by rw [hj]; dsimp only; rw [e]; rfl⟩, by rw [hj]⟩)
      exact this
  · obtain ⟨j, hj, rfl⟩ := List.mem_map.mp hb
    have hjl := List.mem_range.mp (List.mem_filter.mp hj).1
    rw [List.getElem?_eq_getElem hjl]
    exact h _ (List.getElem_mem hjl)
section
variable {P : Program} {w : World} {K : PySem.W.Frag} {mg : Str → Option Value} {base : Heap}
def sp_is_table_of (K : PySem.W.Frag) : Sp := fun vs H Q _ => ∃ (v z : V) (d : PyData) (ss rs : List Int) (k c b a : Nat), vs = [v, z, .int (b : Int), .int (a : Int), .int (ss.length : Int)] ∧ Dq K H v d ∧ Good k c ss.length d ∧ Sms K H z ss rs ∧ ss.length = rs.length ∧ ss.length ≤ 14 ∧ b ≤ k ∧ a ≤ c ∧ ∀ H', Same H H' → Q (.bl (lowC (sm ss) (sm rs) (Tc d b a) (TcL d b a) (TcR d b a) ss.length)) H'
theorem ok_is_table_of (TX : Tx K mg) : FnOk P w K mg base CX0 4 TX.a_is_table_of TX.fd_is_table_of ["tables", "sums", "b", "a", "n"] (sp_is_table_of K) := by
  refine TX.f_is_table_of.ok sc_is_table_of (fun vs H Q E h => ?_) (fun cdv A outer s H vs Q E hr h => ?_)
  · obtain ⟨v, z, d, ss, rs, k, c, b, a, rfl, _⟩ := h; rfl
  · obtain ⟨v, z, d, ss, rs, k, c, b, a, rfl, hD, hG, hZ, he, hz, hb, ha, q⟩ := h
    refine ⟨_, (pss_cons (ps_set (i := 5) sc_is_table_of.nd rfl (.inr rfl) (pe_ix (k_ixQ (K := K) rfl) (pe_ix (k_ixQ (K := K) rfl) (pv 0) (pv 2) (fun _ _ => rfl)) (pv 3) (fun _ _ => rfl)))
      (pss_cut (ps_set (i := 6) sc_is_table_of.nd rfl (.inr rfl) (pe_ifExp (pt_cmpR op_gt (pv 3) pe_int (nomark _)) (pe_ix (k_ixQ (K := K) rfl) (pe_ix (k_ixQ (K := K) rfl) (pv 0) (pv 2) (fun _ _ => rfl)) (pe_op op_sub (pv 3) pe_int) (fun _ _ => rfl)) (pv 5)))
      (pss_cut (ps_set (i := 7) sc_is_table_of.nd rfl (.inr rfl) (pe_ifExp (pt_cmpR op_gt (pv 2) pe_int (nomark _)) (pe_ix (k_ixQ (K := K) rfl) (pe_ix (k_ixQ (K := K) rfl) (pv 0) (pe_op op_sub (pv 2) pe_int) (fun _ _ => rfl)) (pv 3) (fun _ _ => rfl)) (pv 5)))
      (pss_cons (ps_setLc (i := 8) (own := [("start", 9), ("stop", 10)]) (by rfl) sc_is_table_of.nd rfl rfl (sw_true rfl rfl rfl (by decide +kernel)) (k_piL (K := K) rfl (pe_call (ok_intervals TX) (hr.mono (by decide)) (by rfl) TX.g_intervals TX.f_intervals.kp TX.bd_intervals .nil pass0 (pa_cons (pv 4) pa_nil))) (blkOk_by (own := [("start", 9), ("stop", 10)]) (N := N_is_table_of) (sc := defScope s_is_table_of) (by decide +kernel)) (fun _ _ _ _ _ => (k_pgT2 (K := K) rfl rfl (pg_name (i := 9) sc_is_table_of.nd rfl (Or.inl rfl)) (pg_name (i := 10) sc_is_table_of.nd rfl (Or.inl rfl)))) (fun _ _ _ _ _ => (pts_one (pt_cmpR op_notN (pe_ix (k_ixQ (K := K) rfl) (pe_ix (k_ixQ (K := K) rfl) (pv 5) (pv 9) (fun _ _ => rfl)) (pe_op op_sub (pv 10) (pv 9)) (fun _ _ => rfl)) pe_non (nomark _)))) (fun _ _ _ _ _ => (pe_tup (pa_cons (pv 9) (pa_cons (pv 10) pa_nil)))))
      (pss_one (ps_ret (pe_callB (id := "all") (cr_all rfl) (by rfl) TX.b_all (by decide +kernel) (pa_cons (pe_lc (own := [("start", 9), ("stop", 10)]) (by rfl) sc_is_table_of.nd (k_piL (K := K) rfl (pv 8)) (blkOk_by (own := [("start", 9), ("stop", 10)]) (N := N_is_table_of) (sc := defScope s_is_table_of) (by decide +kernel)) (fun _ _ _ _ _ => (k_pgT2 (K := K) rfl rfl (pg_name (i := 9) sc_is_table_of.nd rfl (Or.inl rfl)) (pg_name (i := 10) sc_is_table_of.nd rfl (Or.inl rfl)))) (fun _ _ _ _ _ => pts_nil) (fun _ _ _ _ _ => (pe_call (ok_is_low TX) (hr.mono (by decide)) (by rfl) TX.g_is_low TX.f_is_low.kp TX.bd_is_low .nil pass0 (pa_cons (pv 5) (pa_cons (pv 6) (pa_cons (pv 7) (pa_cons (pv 1) (pa_cons (pv 9) (pa_cons (pv 10) pa_nil))))))))) pa_nil)))))))), ?_⟩
    obtain ⟨n, hn⟩ : ∃ n, n = ss.length := ⟨_, rfl⟩
    rw [← hn] at hG hz q ⊢
    obtain ⟨p, xs, r, ys, t, rfl, g1, g2, g3, g4, g5⟩ := hG.at hD hb ha
    refine ⟨_, rfl, _, rfl, p, xs, _, _, rfl, rfl, .inr g1, atI_nat g2, _, rfl, r, ys, _, _, rfl, rfl, .inr g3, atI_nat g4, ?_⟩
    refine ⟨fun σ' H' => ∃ l : Addr, σ' = [some (.ref p), some z, some (.int (b : Int)), some (.int (a : Int)), some (.int (n : Int)), some (.ref t), some (.ref l), none, none, none, none] ∧ H' = H ∧ Dp K H (.ref l) (dTabO (TcL d b a) n), ?_, ?_⟩
    · refine ⟨_, rfl, _, _, rfl, rfl, _, rfl, ite2 (fun h => ?_) (fun h => ?_)⟩
      · have ha0 : a ≠ 0 := by
          have := of_decide_eq_true h
          omega
        obtain ⟨p', xs', r', ys', t', e, f1, f2, f3, f4, f5⟩ := hG.at hD hb (show a - 1 ≤ c by omega)
        cases e
        have e1 : ((a : Nat) : Int) - 1 = ((a - 1 : Nat) : Int) := by omega
        refine ⟨_, rfl, _, rfl, p, xs', _, _, rfl, rfl, .inr f1, atI_nat f2, _, rfl, _, _, rfl, rfl, r', ys', _, _, rfl, rfl, .inr f3, (by rw [e1]; exact atI_nat f4), ?_⟩
        exact ⟨t', rfl, rfl, by unfold TcL; rw [if_neg ha0]; exact f5⟩
      · have ha0 : a = 0 := by
          have : ¬ (0 : Int) < (a : Int) := fun z => h (decide_eq_true z)
          omega
        exact ⟨_, rfl, t, rfl, rfl, by unfold TcL; rw [if_pos ha0]; exact g5⟩
    rintro σ H1 ⟨l, rfl, rfl, hl⟩
    refine ⟨fun σ' H' => ∃ rr : Addr, σ' = [some (.ref p), some z, some (.int (b : Int)), some (.int (a : Int)), some (.int (n : Int)), some (.ref t), some (.ref l), some (.ref rr), none, none, none] ∧ H' = H1 ∧ Dp K H1 (.ref rr) (dTabO (TcR d b a) n), ?_, ?_⟩
    · refine ⟨_, rfl, _, _, rfl, rfl, _, rfl, ite2 (fun h => ?_) (fun h => ?_)⟩
      · have hb0 : b ≠ 0 := by
          have := of_decide_eq_true h
          omega
        obtain ⟨p', xs', r', ys', t', e, f1, f2, f3, f4, f5⟩ := hG.at hD (show b - 1 ≤ k by omega) ha
        cases e
        have e1 : ((b : Nat) : Int) - 1 = ((b - 1 : Nat) : Int) := by omega
        refine ⟨_, rfl, _, rfl, _, _, rfl, rfl, p, xs', _, _, rfl, rfl, .inr f1, (by rw [e1]; exact atI_nat f2), _, rfl, r', ys', _, _, rfl, rfl, .inr f3, atI_nat f4, ?_⟩
        exact ⟨t', rfl, rfl, by unfold TcR; rw [if_neg hb0]; exact f5⟩
      · have hb0 : b = 0 := by
          have : ¬ (0 : Int) < (b : Int) := fun z => h (decide_eq_true z)
          omega
        exact ⟨_, rfl, t, rfl, rfl, by unfold TcR; rw [if_pos hb0]; exact g5⟩
    rintro σ H2 ⟨rr, rfl, rfl, hrr⟩
    refine ⟨_, rfl, n, rfl, by omega, fun H3 iv us s3 niv hiv hA3 => ?_⟩
    have hul := DpAll.len hA3
    rw [List.length_map] at hul
    have hil := iv_len (n := n) (by omega)
    refine ⟨iv, rfl, ⟨_, .inl (.inl hiv)⟩, fun D nD => ?_⟩
    refine lc_sel (K := K) (walk_list (xs := us)) (fun j => match (ivN n)[j]? with | some pr => (Tc d b a pr.1 pr.2).isSome | none => false) (fun j => dIv ((ivN n).getD j (0, 0))) (fun j _ => tf_dIv _) (by omega) nD (fun H' s' => s'.seq (.inl (.inl hiv))) ?_ ?_ mono_pair (fun σ' H' Q Q' h e => by
      obtain ⟨x5, a1, x9, a2, p', xs', i', y', b1, b2, b3, b4, x10, a3, x9', a4, i1, j1, b5, b6, c, cs, i2, y2, d1, d2, d3, d4, hy, k, hk, hq⟩ := e
      exact ⟨x5, a1, x9, a2, p', xs', i', y', b1, b2, b3, b4, x10, a3, x9', a4, i1, j1, b5, b6, c, cs, i2, y2, d1, d2, d3, d4, hy, k, hk, h _ _ hq⟩)
    · rintro j x Hx Hx' hj sx ⟨rfl, hx⟩ R hR
      have hj2 : j < (ivN n).length := by omega
      have hgj : (ivN n)[j]? = some (ivN n)[j] := List.getElem?_eq_getElem hj2
      obtain ⟨x', hx', hD'⟩ := DpAll.get hA3 (i := j) (by rw [List.getElem?_map, hgj]; rfl)
      rw [hx] at hx'
      cases hx'
      have hm := mem_ivN.mp (List.getElem_mem hj2)
      rw [List.getD_eq_getElem?_getD, hgj] at hR
      generalize (ivN n)[j] = pr at hD' hm hR hgj
      obtain ⟨i, m⟩ := pr
      dsimp only at hm
      obtain ⟨tt, rfl, ht⟩ := Dp.intsInv (ns := [((i : Nat) : Int), ((i + m : Nat) : Int)]) hD'
      obtain ⟨ta, zs, tb, ws, e, f1, f2, f3, f4⟩ := tabO_rd (Dp.same (s3.trans sx) g5) hm
      cases e
      have e2 : ((i + m : Nat) : Int) - ((i : Nat) : Int) = ((m : Nat) : Int) := by omega
      refine ⟨tt, _, rfl, Same.tup sx ht, rfl, _, _, rfl, _, _, rfl, rfl, rfl, _, rfl, _, rfl, t, zs, _, _, rfl, rfl, f1, atI_nat f2, _, rfl, _, rfl, _, _, rfl, rfl, tb, ws, _, _, rfl, rfl, f3, (by rw [e2]; exact atI_nat f4), rfl, _, rfl, ?_, Same.refl _, fun _ => ⟨_, rfl, _, rfl, sz60 (by simp), fun o no => hR _ _ (same_upd no) (dp_dP (.inl (.inl upd_same)))⟩⟩
      rw [hgj]
      cases hl : Tc d b a i m with
      | none => simp [ov, hl]
      | some y => simp [ov, hl]
    intro H4 acc s4 hacc hA4
    obtain ⟨L, hL⟩ : ∃ L, L = (List.range us.length).filter (fun j => match (ivN n)[j]? with | some pr => (Tc d b a pr.1 pr.2).isSome | none => false) := ⟨_, rfl⟩
    rw [← hL] at hA4
    have hal := DpAll.len hA4
    rw [List.length_map] at hal
    have hLl : L.length ≤ us.length := by
      rw [hL]
      exact Nat.le_trans (List.length_filter_le _ _) (by simp)
    refine ⟨.ref D, rfl, D, rfl, ⟨_, .inl (.inl hacc)⟩, fun D2 nD2 => ?_⟩
    refine lc_bools (K := K) (walk_list (xs := acc)) (L.map fun j => match (ivN n)[j]? with | some pr => lowO (sm ss) (sm rs) (Tc d b a) (TcL d b a) (TcR d b a) pr | none => true) (by rw [List.length_map]; omega) (by omega) nD2 (fun H' s' => .inl (.inl (s' _ _ hacc))) ?_ ?_ mono_pair (fun σ' H' Q Q' h => h _ _)
    · rintro j x Hx Hx' hj sx ⟨rfl, hx⟩ bb hbb R hR
      have hj2 : j < L.length := by omega
      rw [List.getElem?_map, List.getElem?_eq_getElem hj2] at hbb
      cases hbb
      obtain ⟨x', hx', hD'⟩ := DpAll.get hA4 (i := j) (by rw [List.getElem?_map, List.getElem?_eq_getElem hj2]; rfl)
      rw [hx] at hx'
      cases hx'
      have hmem := List.getElem_mem hj2
      generalize L[j] = qq at hD' hmem hR
      rw [hL, List.mem_filter] at hmem
      cases hgq : (ivN n)[qq]? with
      | none => rw [hgq] at hmem; exact absurd hmem.2 (by simp)
      | some pr =>
        rw [hgq] at hmem
        dsimp only at hR
        rw [hgq] at hR
        dsimp only at hD' hR
        rw [List.getD_eq_getElem?_getD, hgq] at hD'
        have hm := mem_ivN.mp (List.mem_of_getElem? hgq)
        obtain ⟨i, m⟩ := pr
        dsimp only at hm hmem hR
        obtain ⟨y, hy⟩ := Option.isSome_iff_exists.mp hmem.2
        obtain ⟨tt, rfl, ht⟩ := Dp.intsInv (ns := [((i : Nat) : Int), ((i + m : Nat) : Int)]) hD'
        have s3x := (s3.trans s4).trans sx
        have hrd := tabO_rd (Dp.same s3x g5) hm
        rw [hy] at hrd
        refine ⟨tt, _, rfl, Same.tup sx ht, rfl, _, _, rfl, _, _, rfl, rfl, rfl, rfl, _, rfl, _, rfl, _, rfl, _, rfl, _, rfl, _, rfl, .ref t, .ref l, .ref rr, z, ss, rs, i, m, y, _, _, rfl, hZ.same s3x, by omega, by omega, by omega, hrd, tabO_rds (Dp.same s3x hl) (Dp.same s3x hrr) hm, fun H6 s6 => ?_⟩
        have := hR _ s6
        unfold lowO low1 at this
        dsimp only at this
        rw [hy] at this
        exact this
    · intro H5 s5 ha5
      refine ⟨D2, _, rfl, .inl (.inl ha5), ?_⟩
      rw [hL, low_known hul]
      exact q _ ((s3.trans s4).trans s5)
end
theorem mx_bin : ∀ b a : Nat, mxb b a + 1 = bin (b + a) b
  | 0, a => by rw [mxb_b0, bin_zero]
  | b + 1, 0 => by rw [mxb_a0, Nat.add_zero, bin_self]
  | b + 1, a + 1 => by
    have h1 := mx_bin (b + 1) a
    have h2 := mx_bin b (a + 1)
    rw [mxb_succ, show b + 1 + (a + 1) = (b + 1 + a) + 1 by omega, bin_succ]
    rw [show b + (a + 1) = b + 1 + a by omega] at h2
    omega
def bgs (k c : Nat) : List (Nat × Nat) := (List.range (k + 1)).flatMap fun b => (List.range (c + 1)).map fun a => (b, a)
theorem mem_bgs {k c : Nat} {p : Nat × Nat} : p ∈ bgs k c ↔ p.1 ≤ k ∧ p.2 ≤ c := by
  unfold bgs
  constructor
  · intro h
    obtain ⟨b, hb, h⟩ := List.mem_flatMap.mp h
    obtain ⟨a, ha, rfl⟩ := List.mem_map.mp h
    exact ⟨by have := List.mem_range.mp hb; show b ≤ k; omega, by have := List.mem_range.mp ha; show a ≤ c; omega⟩
  · rintro ⟨h1, h2⟩
    exact List.mem_flatMap.mpr ⟨p.1, List.mem_range.mpr (by omega), List.mem_map.mpr ⟨p.2, List.mem_range.mpr (by omega), rfl⟩⟩
theorem bgs_blks (k c : Nat) : blks (fun i => (List.range (c + 1)).map fun j => dP (((i : Nat) : Int), ((j : Nat) : Int))) (k + 1) = (bgs k c).map fun p => dP (((p.1 : Nat) : Int), ((p.2 : Nat) : Int)) := by
  unfold blks bgs
  rw [List.map_flatMap]
  refine congrArg (fun f => List.flatMap f _) (funext fun i => ?_)
  rw [List.map_map]; rfl
def hbs (n k c : Nat) (d : PyData) : Bool := (bgs k c).all fun p => hbD n (mxb p.1 p.2) (cellD d p.1 p.2)
def lows (S R : Nat → Int) (n k c : Nat) (d : PyData) : Bool := (bgs k c).all fun p => lowC S R (Tc d p.1 p.2) (TcL d p.1 p.2) (TcR d p.1 p.2) n
def swD (S R : Nat → Int) (n k c : Nat) (dx d : PyData) : Bool := isBndD dx && (gridD k c d && (hbs n k c d && (lows S R n k c d && decide (Tc d k c 0 n = numO dx))))
theorem good_of {n k c : Nat} {d : PyData} (g : gridD k c d = true) (h : hbs n k c d = true) : Good k c n d := by
  refine ⟨g, fun b a hb ha => ?_⟩
  have := List.all_eq_true.mp h (b, a) (mem_bgs.mpr ⟨hb, ha⟩)
  unfold hbD at this
  simp only [Bool.and_eq_true] at this
  exact ⟨this.1, this.2.1⟩
section
variable {P : Program} {w : World} {K : PySem.W.Frag} {mg : Str → Option Value} {base : Heap}
def sp_lifetime (K : PySem.W.Frag) : Sp := fun vs H Q _ => ∃ k c : Nat, vs = [.int (k : Int), .int (c : Int)] ∧ k ≤ 60 ∧ c ≤ 60 ∧ ∀ H', Same H H' → Q (.int ((bin (k + c) k : Int) - 1)) H'
theorem ok_lifetime (TX : Tx K mg) : FnOk P w K mg base CX0 5 TX.a_lifetime TX.fd_lifetime ["k", "c"] (sp_lifetime K) := by
  refine TX.f_lifetime.ok sc_lifetime (fun vs H Q E h => ?_) (fun cdv A outer s H vs Q E hr h => ?_)
  · obtain ⟨k, c, rfl, _⟩ := h; rfl
  · obtain ⟨k, c, rfl, hk, hc, q⟩ := h
    refine ⟨_, (pss_cons (ps_expr (pe_call (ok_check_budgets TX) (hr.mono (by decide)) (by rfl) TX.g_check_budgets TX.f_check_budgets.kp TX.bd_check_budgets .nil pass0 (pa_cons (pv 0) (pa_cons (pv 1) (pa_cons (pe_glob (v := .int (60)) (by rfl) TX.c_MOST_BUDGET ⟨_, rfl⟩) pa_nil)))))
      (pss_one (ps_ret (pe_op op_sub (pe_call (ok_choose TX) (hr.mono (by decide)) (by rfl) TX.g_choose TX.f_choose.kp TX.bd_choose .nil pass0 (pa_cons (pe_op op_add (pv 0) (pv 1)) (pa_cons (pv 0) pa_nil))) pe_int)))), ?_⟩
    exact ⟨_, rfl, _, rfl, _, _, _, rfl, by omega, by omega, by omega, by omega, fun H1 s1 => ⟨_, rfl, _, rfl, _, _, rfl, rfl, _, rfl, k + c, k, rfl, by omega, by omega, by omega, _, _, rfl, rfl, q H1 s1⟩⟩
def sp_shows_bound_within (K : PySem.W.Frag) : Sp := fun vs H Q _ => ∃ (a b : Addr) (ss rs : List Int) (k c : Nat) (x v : V) (dx d : PyData), vs = [.ref a, .ref b, .int (k : Int), .int (c : Int), x, v] ∧ SqT K H a (ss.map V.int) ∧ SqT K H b (rs.map V.int) ∧ Lds ss ∧ Lds rs ∧ ss.length = rs.length ∧ ss.length ≤ 14 ∧ k ≤ 8 ∧ c ≤ 8 ∧ Dq K H x dx ∧ Dq K H v d ∧ ∀ H', Same H H' → Q (.bl (swD (sm ss) (sm rs) ss.length k c dx d)) H'
theorem ok_shows_bound_within (TX : Tx K mg) : FnOk P w K mg base CX0 8 TX.a_shows_bound_within TX.fd_shows_bound_within ["sizes", "reads", "k", "c", "bound", "value"] (sp_shows_bound_within K) := by
  refine TX.f_shows_bound_within.ok sc_shows_bound_within (fun vs H Q E h => ?_) (fun cdv A outer s H vs Q E hr h => ?_)
  · obtain ⟨a, b, ss, rs, k, c, x, v, dx, d, rfl, _⟩ := h; rfl
  · obtain ⟨a, b, ss, rs, k, c, x, v, dx, d, rfl, hA, hB, dS, dR, he, hz, hk, hc, hx, hD, q⟩ := h
    refine ⟨_, (pss_cons (ps_expr (pe_call (ok_check_arguments TX) (hr.mono (by decide)) (by rfl) TX.g_check_arguments TX.f_check_arguments.kp TX.bd_check_arguments .nil pass0 (pa_cons (pv 0) (pa_cons (pv 1) (pa_cons (pv 2) (pa_cons (pv 3) pa_nil))))))
      (pss_cons (ps_set (i := 6) sc_shows_bound_within.nd rfl (.inr rfl) (pe_callB (id := "len") (k_len (K := K) rfl) (by rfl) TX.b_len (by decide +kernel) (pa_cons (pv 0) pa_nil)))
      (pss_cons (ps_if (PW.pt (pw_or (pt_not (pt_val (pe_call (ok_is_bound TX) (hr.mono (by decide)) (by rfl) TX.g_is_bound TX.f_is_bound.kp TX.bd_is_bound .nil pass0 (pa_cons (pv 4) pa_nil)))) (pw_or1 (pt_not (pt_val (pe_call (ok_is_grid TX) (hr.mono (by decide)) (by rfl) TX.g_is_grid TX.f_is_grid.kp TX.bd_is_grid .nil pass0 (pa_cons (pv 5) (pa_cons (pv 2) (pa_cons (pv 3) pa_nil)))))))))
        (pss_one (ps_ret pe_bl))
        pss_nil)
      (pss_cons (ps_setLc2 (i := 7) (own := [("b", 9), ("a", 10)]) (vs1 := [10]) (by rfl) sc_shows_bound_within.nd rfl rfl (sw_true rfl rfl rfl (by decide +kernel)) (pi_range1 (by rfl) TX.b_range (pa_cons (pe_op op_add (pv 2) pe_int) pa_nil)) (blkOk_by (own := [("b", 9), ("a", 10)]) (N := N_shows_bound_within) (sc := defScope s_shows_bound_within) (by decide +kernel)) (by decide) (fun _ _ _ _ _ => (pg_name (i := 9) sc_shows_bound_within.nd rfl (Or.inl rfl))) (fun _ _ _ _ _ => pts_nil) (fun _ _ _ _ _ => (pi_range1 (by rfl) TX.b_range (pa_cons (pe_op op_add (pv 3) pe_int) pa_nil))) (fun _ _ _ _ _ => (pg_name (i := 10) sc_shows_bound_within.nd rfl (Or.inl rfl))) (fun _ _ _ _ _ => pts_nil) (fun _ _ _ _ _ => (pe_tup (pa_cons (pv 9) (pa_cons (pv 10) pa_nil)))))
      (pss_cons (ps_if (pt_not (pt_val (pe_callB (id := "all") (cr_all rfl) (by rfl) TX.b_all (by decide +kernel) (pa_cons (pe_lc (own := [("b", 9), ("a", 10)]) (by rfl) sc_shows_bound_within.nd (k_piL (K := K) rfl (pv 7)) (blkOk_by (own := [("b", 9), ("a", 10)]) (N := N_shows_bound_within) (sc := defScope s_shows_bound_within) (by decide +kernel)) (fun _ _ _ _ _ => (k_pgT2 (K := K) rfl rfl (pg_name (i := 9) sc_shows_bound_within.nd rfl (Or.inl rfl)) (pg_name (i := 10) sc_shows_bound_within.nd rfl (Or.inl rfl)))) (fun _ _ _ _ _ => pts_nil) (fun _ _ _ _ _ => (pe_call (ok_has_bounds TX) (hr.mono (by decide)) (by rfl) TX.g_has_bounds TX.f_has_bounds.kp TX.bd_has_bounds .nil pass0 (pa_cons (pe_ix (k_ixQ (K := K) rfl) (pe_ix (k_ixQ (K := K) rfl) (pv 5) (pv 9) (fun _ _ => rfl)) (pv 10) (fun _ _ => rfl)) (pa_cons (pv 6) (pa_cons (pe_call (ok_lifetime TX) (hr.mono (by decide)) (by rfl) TX.g_lifetime TX.f_lifetime.kp TX.bd_lifetime .nil pass0 (pa_cons (pv 9) (pa_cons (pv 10) pa_nil))) pa_nil)))))) pa_nil))))
        (pss_one (ps_ret pe_bl))
        pss_nil)
      (pss_cons (ps_set (i := 8) sc_shows_bound_within.nd rfl (.inr rfl) (pe_call (ok_load_sums TX) (hr.mono (by decide)) (by rfl) TX.g_load_sums TX.f_load_sums.kp TX.bd_load_sums .nil pass0 (pa_cons (pv 0) (pa_cons (pv 1) pa_nil))))
      (pss_cons (ps_if (pt_not (pt_val (pe_callB (id := "all") (cr_all rfl) (by rfl) TX.b_all (by decide +kernel) (pa_cons (pe_lc (own := [("b", 9), ("a", 10)]) (by rfl) sc_shows_bound_within.nd (k_piL (K := K) rfl (pv 7)) (blkOk_by (own := [("b", 9), ("a", 10)]) (N := N_shows_bound_within) (sc := defScope s_shows_bound_within) (by decide +kernel)) (fun _ _ _ _ _ => (k_pgT2 (K := K) rfl rfl (pg_name (i := 9) sc_shows_bound_within.nd rfl (Or.inl rfl)) (pg_name (i := 10) sc_shows_bound_within.nd rfl (Or.inl rfl)))) (fun _ _ _ _ _ => pts_nil) (fun _ _ _ _ _ => (pe_call (ok_is_table_of TX) (hr.mono (by decide)) (by rfl) TX.g_is_table_of TX.f_is_table_of.kp TX.bd_is_table_of .nil pass0 (pa_cons (pv 5) (pa_cons (pv 8) (pa_cons (pv 9) (pa_cons (pv 10) (pa_cons (pv 6) pa_nil)))))))) pa_nil))))
        (pss_one (ps_ret pe_bl))
        pss_nil)
      (pss_one (ps_ret (pe_cmpR op_eq (pe_ix (k_ixQ (K := K) rfl) (pe_ix (k_ixQ (K := K) rfl) (pe_ix (k_ixQ (K := K) rfl) (pe_ix (k_ixQ (K := K) rfl) (pv 5) (pv 2) (fun _ _ => rfl)) (pv 3) (fun _ _ => rfl)) pe_int (fun _ _ => rfl)) (pv 6) (fun _ _ => rfl)) (pv 4) (nomark _))))))))))), ?_⟩
    obtain ⟨n, hn⟩ : ∃ n, n = ss.length := ⟨_, rfl⟩
    have hlen : ((ss.map V.int).length : Int) = (n : Int) := by rw [List.length_map, hn]
    rw [← hn] at q
    refine ⟨.ref a, rfl, .ref b, rfl, _, rfl, _, rfl, a, b, ss, rs, k, c, rfl, hA, hB, dS, dR, he, hz, hk, hc, fun H1 s1 => ?_⟩
    refine ⟨.ref a, rfl, a, _, rfl, .inr (Same.tup s1 hA), ?_⟩
    rw [hlen]
    refine ⟨x, rfl, x, dx, rfl, Dq.same s1 hx, isBndD dx, rfl, ?_⟩
    unfold swD at q
    by_cases hbx : isBndD dx = true
    rotate_left
    · have hb' : isBndD dx = false := by simpa using hbx
      rw [hb'] at q ⊢
      exact iteT (iteT (q _ s1))
    rw [hbx] at q ⊢
    refine iteF ?_
    have hD1 := Dq.same s1 hD
    refine ⟨_, rfl, _, rfl, _, rfl, v, d, k, c, rfl, hD1, by omega, by omega, fun H2 s2 => ⟨gridD k c d, rfl, ?_⟩⟩
    by_cases hgr : gridD k c d = true
    rotate_left
    · have hb' : gridD k c d = false := by simpa using hgr
      rw [hb'] at q ⊢
      exact iteT (q _ (s1.trans s2))
    rw [hgr] at q ⊢
    refine iteF ?_
    replace q : ∀ H', Same H H' → Q (.bl (hbs n k c d && (lows (sm ss) (sm rs) n k c d && decide (Tc d k c 0 n = numO dx)))) H' := q
    have hD2 := Dq.same s2 hD1
    have en : (((k : Int) + 1)).toNat = k + 1 := by omega
    refine ⟨_, rfl, _, _, rfl, rfl, _, rfl, by omega, by omega, fun D nD => ?_⟩
    have hbl : ∀ i, (blks (fun i => (List.range (c + 1)).map fun j => dP (((i : Nat) : Int), ((j : Nat) : Int))) i).length ≤ 101 * i := fun i => blks_len_le (f := fun i => (List.range (c + 1)).map fun j => dP (((i : Nat) : Int), ((j : Nat) : Int))) (c := 101) i fun j hj => by simp; omega
    refine lc2_out (K := K) walk_range (fun i => (List.range (c + 1)).map fun j => dP (((i : Nat) : Int), ((j : Nat) : Int))) nD (fun _ _ => trivial) ?_ ?_
    · rintro i x Hx Hx' hi ax hy Nx hN
      obtain ⟨rfl, rfl⟩ := hy
      have hi2 : i ≤ k := by omega
      have ei : (0 : Int) + ((i : Nat) : Int) = ((i : Nat) : Int) := by omega
      dsimp only
      rw [ei]
      have hbi := hbl i
      refine ⟨rfl, yesT ?_⟩
      refine ⟨_, rfl, _, _, rfl, rfl, _, rfl, by omega, by omega, ?_⟩
      refine lc2_in (K := K) walk_range (blks (fun i => (List.range (c + 1)).map fun j => dP (((i : Nat) : Int), ((j : Nat) : Int))) i) ((List.range (c + 1)).map fun j => dP (((i : Nat) : Int), ((j : Nat) : Int))) (by simp <;> omega) (fun d hd => ?_) (fun d hd => by obtain ⟨m, _, rfl⟩ := List.mem_map.mp hd; exact tf_dP _) (by omega) nD ax (fun _ _ => trivial) ?_ hN (fun x σ' H' Q Q' h => h _ _) (fun σ' H' Q Q' h => h _ _)
      · obtain ⟨j, _, hd⟩ := mem_blks hd
        obtain ⟨m, _, rfl⟩ := List.mem_map.mp hd
        exact tf_dP _
      · rintro m y Hy Hy' hm sy hy d hd R hR
        obtain ⟨rfl, rfl⟩ := hy
        have em : (0 : Int) + ((m : Nat) : Int) = ((m : Nat) : Int) := by omega
        dsimp only
        rw [em]
        rw [List.getElem?_map, List.getElem?_range (by omega)] at hd
        cases hd
        refine ⟨rfl, rfl, _, rfl, _, rfl, sz60 (by simp), fun p np => hR _ _ (same_upd np) ?_⟩
        exact dp_dP (.inl (.inl upd_same))
    intro H3 acc s3 ha hA3
    rw [en] at hA3
    rw [bgs_blks] at hA3
    have hal := DpAll.len hA3
    rw [List.length_map] at hal
    have hal2 : (bgs k c).length ≤ 909 := by
      have h1 := hbl (k + 1)
      rw [bgs_blks, List.length_map] at h1
      omega
    have hpick : ∀ {H' : Hp} {j : Nat} {x : V} {p : Nat × Nat}, Same H3 H' → (bgs k c)[j]? = some p → acc[j]? = some x → ∃ tt : Addr, x = .ref tt ∧ SqT K H' tt [.int (p.1 : Int), .int (p.2 : Int)] := fun {H'} {j} {x} {p} s' hp hx => by
      obtain ⟨x', hx', hD'⟩ := DpAll.get hA3 (i := j) (d := dP (((p.1 : Nat) : Int), ((p.2 : Nat) : Int))) (by rw [List.getElem?_map, hp]; rfl)
      rw [hx] at hx'
      cases hx'
      obtain ⟨tt, rfl, ht⟩ := Dp.intsInv (ns := [((p.1 : Nat) : Int), ((p.2 : Nat) : Int)]) hD'
      exact ⟨tt, rfl, Same.tup s' ht⟩
    have hD3 := Dq.same s3 hD2
    refine ⟨.ref D, rfl, D, rfl, ⟨_, .inl (.inl ha)⟩, fun D2 nD2 => ?_⟩
    refine lc_bools (K := K) (walk_list (xs := acc)) ((bgs k c).map fun p => hbD n (mxb p.1 p.2) (cellD d p.1 p.2)) (by rw [List.length_map, hal]) (by omega) nD2 (fun H' s' => .inl (.inl (s' _ _ ha))) ?_ ?_ mono_pair (fun σ' H' Q Q' h => h _ _)
    · rintro j x' Hx Hx' hj sx ⟨rfl, hx'⟩ bb hbb R hR
      obtain ⟨pr, hpr⟩ : ∃ pr, (bgs k c)[j]? = some pr := ⟨_, List.getElem?_eq_getElem (by omega)⟩
      rw [List.getElem?_map, hpr] at hbb
      cases hbb
      obtain ⟨hb', ha'⟩ := mem_bgs.mp (List.mem_of_getElem? hpr)
      obtain ⟨tt, rfl, ht⟩ := hpick sx hpr hx'
      obtain ⟨b', a'⟩ := pr
      dsimp only at hb' ha' ht hR
      obtain ⟨p, xs, r, ys, t, e0, g1, g2, g3, g4, g5, _⟩ := grid_cell (Dq.same sx hD3) hgr hb' ha'
      refine ⟨tt, _, rfl, ht, rfl, _, _, rfl, _, _, rfl, rfl, rfl, rfl, _, rfl, _, rfl, p, xs, _, _, e0, rfl, .inr g1, atI_nat g2, _, rfl, r, ys, _, _, rfl, rfl, .inr g3, atI_nat g4, _, rfl, _, rfl, _, rfl, b', a', rfl, by omega, by omega, fun H4 s4 => ?_⟩
      have emx : ((bin (b' + a') b' : Nat) : Int) - 1 = ((mxb b' a' : Nat) : Int) := by
        have := mx_bin b' a'
        omega
      exact ⟨t, cellD d b' a', n, mxb b' a', (by rw [emx]; rfl), Dq.same s4 g5, by omega, fun H5 s5 => hR _ (s4.trans s5)⟩
    intro H4 s4 ha4
    have eb : ((bgs k c).map fun p => hbD n (mxb p.1 p.2) (cellD d p.1 p.2)).all id = hbs n k c d := by
      rw [List.all_map]; rfl
    refine ⟨D2, _, rfl, .inl (.inl ha4), ?_⟩
    rw [eb]
    by_cases hbq : hbs n k c d = true
    rotate_left
    · have hb' : hbs n k c d = false := by simpa using hbq
      rw [hb'] at q ⊢
      exact ⟨false, rfl, iteT (q _ (((s1.trans s2).trans s3).trans s4))⟩
    rw [hbq] at q ⊢
    refine ⟨true, rfl, iteF ?_⟩
    have hG := good_of hgr hbq
    replace q : ∀ H', Same H H' → Q (.bl (lows (sm ss) (sm rs) n k c d && decide (Tc d k c 0 n = numO dx))) H' := q
    have s04 := ((s1.trans s2).trans s3).trans s4
    refine ⟨.ref a, rfl, .ref b, rfl, a, b, ss, rs, rfl, Same.tup s04 hA, Same.tup s04 hB, by omega, by omega, fun H5 z s5 hZ => ?_⟩
    have s35 := s4.trans s5
    refine ⟨.ref D, rfl, D, rfl, ⟨_, .inl (.inl (s35 _ _ ha))⟩, fun D3 nD3 => ?_⟩
    refine lc_bools (K := K) (walk_list (xs := acc)) ((bgs k c).map fun p => lowC (sm ss) (sm rs) (Tc d p.1 p.2) (TcL d p.1 p.2) (TcR d p.1 p.2) n) (by rw [List.length_map, hal]) (by omega) nD3 (fun H' s' => .inl (.inl (s' _ _ (s35 _ _ ha)))) ?_ ?_ mono_pair (fun σ' H' Q Q' h => h _ _)
    · rintro j x' Hx Hx' hj sx ⟨rfl, hx'⟩ bb hbb R hR
      obtain ⟨pr, hpr⟩ : ∃ pr, (bgs k c)[j]? = some pr := ⟨_, List.getElem?_eq_getElem (by omega)⟩
      rw [List.getElem?_map, hpr] at hbb
      cases hbb
      obtain ⟨hb', ha'⟩ := mem_bgs.mp (List.mem_of_getElem? hpr)
      obtain ⟨tt, rfl, ht⟩ := hpick (s35.trans sx) hpr hx'
      obtain ⟨b', a'⟩ := pr
      dsimp only at hb' ha' ht hR
      rw [hn] at hR
      exact ⟨tt, _, rfl, ht, rfl, _, _, rfl, _, _, rfl, rfl, rfl, rfl, _, rfl, _, rfl, _, rfl, _, rfl, _, rfl, v, .ref z, d, ss, rs, k, c, b', a', (by rw [hn]; rfl), Dq.same (s35.trans sx) hD3, (by rw [← hn]; exact hG), hZ.same sx, he, by omega, hb', ha', fun H6 s6 => hR _ s6⟩
    intro H6 s6 ha6
    have eb2 : ((bgs k c).map fun p => lowC (sm ss) (sm rs) (Tc d p.1 p.2) (TcL d p.1 p.2) (TcR d p.1 p.2) n).all id = lows (sm ss) (sm rs) n k c d := by
      rw [List.all_map]; rfl
    refine ⟨D3, _, rfl, .inl (.inl ha6), ?_⟩
    rw [eb2]
    have s36 := s35.trans s6
    by_cases hlw : lows (sm ss) (sm rs) n k c d = true
    rotate_left
    · have hb' : lows (sm ss) (sm rs) n k c d = false := by simpa using hlw
      rw [hb'] at q ⊢
      exact ⟨false, rfl, iteT (q _ (((s1.trans s2).trans s3).trans s36))⟩
    rw [hlw] at q ⊢
    refine ⟨true, rfl, iteF ?_⟩
    obtain ⟨p, xs, r, ys, t, e0, g1, g2, g3, g4, g5⟩ := hG.at (Dq.same s36 hD3) (Nat.le_refl k) (Nat.le_refl c)
    obtain ⟨ta, zs, tb, ws, e, f1, f2, f3, f4⟩ := tabO_rd g5 (i := 0) (m := n) (by omega)
    cases e
    refine ⟨_, rfl, _, rfl, p, xs, _, _, e0, rfl, .inr g1, atI_nat g2, _, rfl, r, ys, _, _, rfl, rfl, .inr g3, atI_nat g4, t, zs, 0, _, rfl, rfl, f1, atI_nat (j := 0) f2, _, rfl, tb, ws, _, _, rfl, rfl, f3, atI_nat f4, _, rfl, ?_⟩
    have q' := q _ ((((s1.trans s2).trans s3).trans s36))
    obtain ⟨o, rfl, eo⟩ : ∃ o, x = ov o ∧ numO dx = o := by
      cases hx with
      | nonq => exact ⟨none, rfl, rfl⟩
      | intq i => exact ⟨some i, rfl, rfl⟩
      | blq b => cases hbx
      | strq b => cases hbx
      | lstq _ _ _ => cases hbx
      | tupq _ _ => cases hbx
      | dctq _ _ _ => cases hbx
    rw [eo, Bool.true_and] at q'
    refine ⟨?_, ?_⟩
    · cases Tc d k c 0 n <;> cases o <;> rfl
    · have e : decide (ov (Tc d k c 0 n) = ov o) = decide (Tc d k c 0 n = o) := by
        cases Tc d k c 0 n <;> cases o <;> simp [ov]
      rw [e]
      exact q'
end
theorem rI_eq {C : Int → Int → Prop} {f : Int → Int → V} {x y v : V} {H : Hp} {Q : VK} {i j : Int} (hx : x = .int i) (hy : y = .int j) (hc : C i j) (he : f i j = v) (q : Q v H) : rI C f x y H Q := ⟨i, j, hx, hy, hc, by rw [he]; exact q⟩
/-- c + 1 numbers -/
def lstN (c : Nat) (g : Nat → Nat) : List V := (List.range (c + 1)).map fun j => V.int ((g j : Nat) : Int)
theorem lstN_len (c : Nat) (g : Nat → Nat) : (lstN c g).length = c + 1 := by simp [lstN]
theorem lstN_at {c j : Nat} {g : Nat → Nat} (h : j ≤ c) : (lstN c g)[j]? = some (.int ((g j : Nat) : Int)) := by
  unfold lstN
  rw [List.getElem?_map, List.getElem?_range (by omega)]; rfl
theorem lstN_set {c t x : Nat} {g : Nat → Nat} : (lstN c g).set t (.int ((x : Nat) : Int)) = lstN c (fun j => if j = t then x else g j) := by
  refine List.ext_getElem? fun j => ?_
  rw [List.getElem?_set]
  by_cases hj : j ≤ c
  · have hR : (lstN c fun j => if j = t then x else g j)[j]? = some (.int (((if j = t then x else g j) : Nat) : Int)) := lstN_at hj
    rw [hR]
    by_cases e : t = j
    · subst e
      rw [if_pos rfl, if_pos (by rw [lstN_len]; omega), if_pos rfl]
    · rw [if_neg e, lstN_at hj, if_neg (fun z => e z.symm)]
  · rw [List.getElem?_eq_none (l := lstN c fun j => if j = t then x else g j) (by rw [lstN_len]; omega)]
    split
    · rw [if_neg (by rw [lstN_len]; omega)]
    · exact List.getElem?_eq_none (by rw [lstN_len]; omega)
theorem lstN_congr {c : Nat} {g h : Nat → Nat} (e : ∀ j, j ≤ c → g j = h j) : lstN c g = lstN c h := by
  unfold lstN
  exact List.map_congr_left fun j hj => by rw [e j (by have := List.mem_range.mp hj; omega)]
theorem mx_pos {b a : Nat} (hb : 1 ≤ b) (ha : 1 ≤ a) : mxb b a = mxb b (a - 1) + mxb (b - 1) a + 1 := by
  obtain ⟨b', rfl⟩ : ∃ b', b = b' + 1 := ⟨b - 1, by omega⟩
  obtain ⟨a', rfl⟩ : ∃ a', a = a' + 1 := ⟨a - 1, by omega⟩
  rw [mxb_succ]; rfl
section
variable {P : Program} {w : World} {K : PySem.W.Frag} {mg : Str → Option Value} {base : Heap}
def sp_L_life (K : PySem.W.Frag) : Sp := fun vs H Q _ => ∃ (k c : Nat), vs = [.int (k : Int), .int (c : Int)] ∧ k ≤ 60 ∧ c ≤ 60 ∧ ∀ H', Same H H' → Q (.int ((mxb k c : Nat) : Int)) H'
theorem ok_L_life (TX : Tx K mg) : FnOk P w K mg base CX0 1 TX.a_L_life TX.fd_L_life ["_law_k", "_law_c"] (sp_L_life K) := by
  refine TX.f_L_life.ok sc_L_life (fun vs H Q E h => ?_) (fun cdv A outer s H vs Q E hr h => ?_)
  · obtain ⟨k, c, rfl, _⟩ := h; rfl
  · obtain ⟨k, c, rfl, hk, hc, q⟩ := h
    refine ⟨_, (pss_cons (ps_if (PW.pt (pw_or (pt_cmpR op_eq (pv 0) pe_int (nomark _)) (pw_or1 (pt_cmpR op_eq (pv 1) pe_int (nomark _)))))
        (pss_one (ps_ret pe_int))
        pss_nil)
      (pss_cons (ps_set (i := 2) sc_L_life.nd rfl (.inl rfl) (pe_op op_rep (pe_lst (pa_cons pe_int pa_nil)) (pe_op op_add (pv 1) pe_int)))
      (pss_cons (ps_for PassesOwn.never rfl (pi_range1 (by rfl) TX.b_range (pa_cons (pv 0) pa_nil)) (pg_name (i := 3) sc_L_life.nd rfl (.inl rfl))
        (pss_one (ps_for PassesOwn.never rfl (pi_range2 (by rfl) TX.b_range (pa_cons pe_int (pa_cons (pe_op op_add (pv 1) pe_int) pa_nil))) (pg_name (i := 4) sc_L_life.nd rfl (.inl rfl))
          (pss_one (ps_asg (pe_op op_add (pe_op op_add (pe_ix (k_ixL (K := K) rfl) (pv 2) (pv 4) (fun _ _ => rfl)) (pe_ix (k_ixL (K := K) rfl) (pv 2) (pe_op op_sub (pv 4) pe_int) (fun _ _ => rfl))) pe_int) (pg_sub (pv 2) (pv 4) set_list))))))
      (pss_one (ps_ret (pe_ix (k_ixL (K := K) rfl) (pv 2) (pv 1) (fun _ _ => rfl))))))), ?_⟩
    by_cases hk0 : k = 0
    · refine ⟨_, rfl, rfl, _, rfl, iteB1 (by simp [hk0]) (iteT ?_)⟩
      have q' := q H (Same.refl H)
      rw [hk0, mxb_b0] at q'
      exact q'
    · by_cases hc0 : c = 0
      · refine ⟨_, rfl, rfl, _, rfl, iteB0 (by simp; omega) ⟨_, rfl, rfl, _, rfl, iteB1 (by simp [hc0]) ?_⟩⟩
        have q' := q H (Same.refl H)
        rw [hc0, mxb_a0] at q'
        exact q'
      · refine ⟨_, rfl, rfl, _, rfl, iteB0 (by simp; omega) ⟨_, rfl, rfl, _, rfl, iteB0 (by simp; omega) ?_⟩⟩
        refine ⟨sz60 (by simp), fun z nz => ?_⟩
        have s1 := same_upd (o := .lst [V.int 0]) nz
        have ec : (((c : Int) + 1)).toNat = c + 1 := by omega
        refine ⟨_, rfl, _, _, rfl, rfl, z, _, _, rfl, rfl, upd_same, by omega, by omega, sz60 (by simp; omega), fun l nl => ?_⟩
        have s2 := same_upd (o := .lst (List.replicate ((c : Int) + 1).toNat [V.int 0]).flatten) nl
        have e0 : (List.replicate ((c : Int) + 1).toNat [V.int 0]).flatten = lstN c (mxb 0) := by
          rw [ec, List.flatten_replicate_singleton]
          refine List.ext_getElem? fun j => ?_
          rw [List.getElem?_replicate]
          by_cases hj : j ≤ c
          · rw [if_pos (by omega), lstN_at hj, mxb_b0]; rfl
          · rw [if_neg (by omega), List.getElem?_eq_none (by rw [lstN_len]; omega)]
        have nlH : H l = none := s1.free nl
        refine ⟨_, rfl, _, rfl, by omega, by omega, for_range (lo := 0) (n := ((k : Nat) : Int).toNat) (fun r σ H' => ∃ y3 y4, σ = [some (.int (k : Int)), some (.int (c : Int)), some (.ref l), y3, y4] ∧ Same H H' ∧ H' l = some (.lst (lstN c (mxb r)))) ⟨_, _, rfl, s1.trans s2, by rw [upd_same, e0]⟩ ?_ ?_⟩
        · rintro r σ H3 hr3 ⟨y3, y4, rfl, s3, hl3⟩
          have en : ((c : Int) + 1 - 1).toNat = c := by omega
          refine ⟨_, rfl, _, _, rfl, rfl, _, _, rfl, ⟨by omega, by omega, by omega, by omega⟩, for_range (lo := 1) (fun t σ H' => ∃ y4, σ = [some (.int (k : Int)), some (.int (c : Int)), some (.ref l), some (.int (0 + (r : Int))), y4] ∧ Same H H' ∧ H' l = some (.lst (lstN c fun j => if j < t + 1 then mxb (r + 1) j else mxb r j))) ⟨_, rfl, s3, ?_⟩ ?_ ?_⟩
          · rw [hl3]
            refine congrArg (fun x => some (HO.lst x)) (lstN_congr fun j hj => ?_)
            by_cases h0 : j < 0 + 1
            · rw [if_pos h0, show j = 0 by omega, mxb_a0, mxb_a0]
            · rw [if_neg h0]
          · rintro t σ H4 ht ⟨y4, rfl, s4, hl4⟩
            rw [en] at ht
            have et : (1 : Int) + ((t : Nat) : Int) = ((t + 1 : Nat) : Int) := by omega
            have et1 : ((t + 1 : Nat) : Int) - 1 = ((t : Nat) : Int) := by omega
            rw [et]
            refine ⟨.ref l, rfl, _, rfl, l, _, _, _, rfl, rfl, .inl (.inl hl4), atI_nat (lstN_at (by omega)), .ref l, rfl, _, rfl, _, _, rfl, rfl, l, _, _, _, rfl, rfl, .inl (.inl hl4), (by rw [et1]; exact atI_nat (lstN_at (by omega))), _, _, rfl, rfl, _, _, rfl, rfl, .ref l, rfl, _, rfl, l, _, _, t + 1, rfl, rfl, hl4, ixN_of (by rw [lstN_len]; omega), ?_⟩
            refine ⟨_, rfl, Same.mut s4 nlH, ?_⟩
            rw [upd_same, if_neg (by omega), if_pos (by omega)]
            have ev : ((mxb r (t + 1) : Nat) : Int) + ((mxb (r + 1) t : Nat) : Int) + 1 = ((mxb (r + 1) (t + 1) : Nat) : Int) := by
              rw [mxb_succ]; omega
            show some (HO.lst ((lstN c _).set (t + 1) (V.int (((mxb r (t + 1) : Nat) : Int) + ((mxb (r + 1) t : Nat) : Int) + 1)))) = _
            rw [ev, lstN_set]
            refine congrArg (fun x => some (HO.lst x)) (lstN_congr fun j hj => ?_)
            by_cases e : j = t + 1
            · subst e; rw [if_pos rfl, if_pos (by omega)]
            · rw [if_neg e]
              by_cases h2 : j < t + 1
              · rw [if_pos h2, if_pos (by omega)]
              · rw [if_neg h2, if_neg (by omega)]
          · rintro σ H4 ⟨y4, rfl, s4, hl4⟩
            rw [en] at hl4
            refine ⟨_, _, rfl, s4, ?_⟩
            rw [hl4]
            exact congrArg (fun x => some (HO.lst x)) (lstN_congr fun j hj => if_pos (by omega))
        · rintro σ H3 ⟨y3, y4, rfl, s3, hl3⟩
          rw [Int.toNat_natCast] at hl3
          exact ⟨.ref l, rfl, _, rfl, l, _, _, _, rfl, rfl, .inl (.inl hl3), atI_nat (lstN_at (Nat.le_refl _)), q _ s3⟩
end
/-! ### the law's own check of the shapes -/
def cellsOk (n : Nat) (e : PyData) : Bool := shpD n e && bndsD e
def lineOk (n c : Nat) (r : PyData) : Bool := isTup r && (decide ((itemsD r).length = c + 1) && (itemsD r).all (cellsOk n))
def shD (n k c : Nat) (d : PyData) : Bool := isTup d && (decide ((itemsD d).length = k + 1) && (itemsD d).all (lineOk n c))
theorem all_false {α : Type} {l : List α} {f : α → Bool} {j : Nat} {e : α} (h : l[j]? = some e) (hf : f e = false) : l.all f = false := by
  cases hh : l.all f with
  | false => rfl
  | true => rw [List.all_eq_true.mp hh e (List.mem_of_getElem? h)] at hf; cases hf
theorem all_true {α : Type} {l : List α} {f : α → Bool} (h : ∀ j e, j < l.length → l[j]? = some e → f e = true) : l.all f = true := List.all_eq_true.mpr fun e he => by
  obtain ⟨j, hj⟩ := List.mem_iff_getElem?.mp he
  exact h j e (List.getElem?_eq_some_iff.mp hj).1 hj
section
variable {P : Program} {w : World} {K : PySem.W.Frag} {mg : Str → Option Value} {base : Heap}
theorem or_bnd {H : Hp} {x : V} {d : PyData} {i : Nat} {σ : L2.St} {R : VK} (hq : Dq K H x d) (hσ : σ[i]? = some (some x)) (h : R (.bl (isBndD d)) H) :
    tOrV (tOp (fun x y H Q => y = V.non ∧ Q (V.bl (decide (x = V.non))) H) (tVar i) (tC V.non)) (tCall (sp_L_is_int K) [] E0 (tCons (tVar i) tNil)) σ H R := by
  cases hq with
  | nonq => exact ⟨_, hσ, rfl, _, rfl, iteB1 (by simp) h⟩
  | blq b => exact ⟨_, hσ, rfl, _, rfl, iteB0 (by simp) ⟨_, hσ, _, .bool b, rfl, .blq b, h⟩⟩
  | intq b => exact ⟨_, hσ, rfl, _, rfl, iteB0 (by simp) ⟨_, hσ, _, .int b, rfl, .intq b, h⟩⟩
  | strq b => exact ⟨_, hσ, rfl, _, rfl, iteB0 (by simp) ⟨_, hσ, _, .str b, rfl, .strq b, h⟩⟩
  | lstq h1 h2 h3 => exact ⟨_, hσ, rfl, _, rfl, iteB0 (by simp) ⟨_, hσ, _, _, rfl, .lstq h1 h2 h3, h⟩⟩
  | tupq h1 h2 => exact ⟨_, hσ, rfl, _, rfl, iteB0 (by simp) ⟨_, hσ, _, _, rfl, .tupq h1 h2, h⟩⟩
  | dctq h1 h2 h3 => exact ⟨_, hσ, rfl, _, rfl, iteB0 (by simp) ⟨_, hσ, _, _, rfl, .dctq h1 h2 h3, h⟩⟩
def sp_L_has_all_shapes (K : PySem.W.Frag) : Sp := fun vs H Q _ => ∃ (x : V) (d : PyData) (n k c : Nat), vs = [.int (n : Int), .int (k : Int), .int (c : Int), x] ∧ Dq K H x d ∧ n ≤ 60 ∧ k ≤ 60 ∧ c ≤ 60 ∧ ∀ H', Same H H' → Q (.bl (shD n k c d)) H'
theorem ok_L_has_all_shapes (TX : Tx K mg) : FnOk P w K mg base CX0 2 TX.a_L_has_all_shapes TX.fd_L_has_all_shapes ["_law_count", "_law_k", "_law_c", "_law_thing"] (sp_L_has_all_shapes K) := by
  refine TX.f_L_has_all_shapes.ok sc_L_has_all_shapes (fun vs H Q E h => ?_) (fun cdv A outer s H vs Q E hr h => ?_)
  · obtain ⟨x, d, n, k, c, rfl, _⟩ := h; rfl
  · obtain ⟨x, d, n, k, c, rfl, hq, hn, hk, hc, q⟩ := h
    refine ⟨_, (pss_cons (ps_if (PW.pt (pw_or (pt_not (pt_val (pe_callB (id := "isinstance") (k_isi (K := K) rfl) (by rfl) TX.b_isinstance (by decide +kernel) (pa_cons (pv 3) (pa_cons (pe_bltn (v := .ty "tuple") (by rfl) TX.b_tuple (by decide +kernel) rfl) pa_nil))))) (pw_or1 (pt_cmpR op_ne (pe_callB (id := "len") (k_len (K := K) rfl) (by rfl) TX.b_len (by decide +kernel) (pa_cons (pv 3) pa_nil)) (pe_op op_add (pv 1) pe_int) (nomark _)))))
        (pss_one (ps_ret pe_bl))
        pss_nil)
      (pss_cons (ps_for PassesOwn.never rfl (k_piT (K := K) rfl (pv 3)) (pg_name (i := 4) sc_L_has_all_shapes.nd rfl (.inl rfl))
        (pss_cons (ps_if (PW.pt (pw_or (pt_not (pt_val (pe_callB (id := "isinstance") (k_isi (K := K) rfl) (by rfl) TX.b_isinstance (by decide +kernel) (pa_cons (pv 4) (pa_cons (pe_bltn (v := .ty "tuple") (by rfl) TX.b_tuple (by decide +kernel) rfl) pa_nil))))) (pw_or1 (pt_cmpR op_ne (pe_callB (id := "len") (k_len (K := K) rfl) (by rfl) TX.b_len (by decide +kernel) (pa_cons (pv 4) pa_nil)) (pe_op op_add (pv 2) pe_int) (nomark _)))))
          (pss_one (ps_ret pe_bl))
          pss_nil)
        (pss_one (ps_for PassesOwn.never rfl (k_piT (K := K) rfl (pv 4)) (pg_name (i := 5) sc_L_has_all_shapes.nd rfl (.inl rfl))
          (pss_cons (ps_if (pt_not (pt_val (pe_call (ok_L_has_shape TX) (hr.mono (by decide)) (by rfl) TX.g_L_has_shape TX.f_L_has_shape.kp TX.bd_L_has_shape .nil pass0 (pa_cons (pv 0) (pa_cons (pv 5) pa_nil)))))
            (pss_one (ps_ret pe_bl))
            pss_nil)
          (pss_one (ps_for PassesOwn.never rfl (k_piT (K := K) rfl (pv 5)) (pg_name (i := 6) sc_L_has_all_shapes.nd rfl (.inl rfl))
            (pss_one (ps_if (pt_not (pt_val (pe_callB (id := "all") (cr_all rfl) (by rfl) TX.b_all (by decide +kernel) (pa_cons (pe_lc (own := [("_law_one", 7)]) (by rfl) sc_L_has_all_shapes.nd (k_piT (K := K) rfl (pv 6)) (blkOk_by (own := [("_law_one", 7)]) (N := N_L_has_all_shapes) (sc := defScope s_L_has_all_shapes) (by decide +kernel)) (fun _ _ _ _ _ => (pg_name (i := 7) sc_L_has_all_shapes.nd rfl (Or.inl rfl))) (fun _ _ _ _ _ => pts_nil) (fun _ _ _ _ _ => (pe_or (pe_cmpR op_isN (pv 7) pe_non (nomark _)) (pe_one (pe_call (ok_L_is_int TX) (hr.mono (by decide)) (by rfl) TX.g_L_is_int TX.f_L_is_int.kp TX.bd_L_is_int .nil pass0 (pa_cons (pv 7) pa_nil)))))) pa_nil))))
              (pss_one (ps_ret pe_bl))
              pss_nil)))))))))
      (pss_one (ps_ret pe_bl)))), ?_⟩
    obtain ⟨T, hT, hkT⟩ := tup_ty hq
    refine ⟨x, rfl, x, .ty "tuple", .type T, .type "tuple", isTup d, rfl, .ty _, hT, kit_ty hkT, isTup d, rfl, ?_⟩
    unfold shD at q
    by_cases ht : isTup d = true
    rotate_left
    · have ht' : isTup d = false := by simpa using ht
      rw [ht'] at q ⊢
      exact iteT (q _ (Same.refl _))
    rw [ht] at q ⊢
    refine iteF ?_
    obtain ⟨a, xs, ds, rfl, rfl, hS, hA⟩ := isTup_inv hq ht
    have hl := hA.len
    replace q : ∀ H', Same H H' → Q (.bl (decide (ds.length = k + 1) && ds.all (lineOk n c))) H' := fun H' s' => q H' s'
    refine ⟨.ref a, rfl, a, _, rfl, .inr hS, _, rfl, _, _, rfl, rfl, rfl, _, rfl, ?_⟩
    by_cases hlen : ds.length = k + 1
    rotate_left
    · refine iteB1 ?_ ?_
      · simp only [Bool.not_eq_true', decide_eq_false_iff_not]
        intro z
        have := V.int.inj z
        omega
      · have := q H (Same.refl _)
        rw [decide_eq_false hlen, Bool.false_and] at this
        exact this
    refine iteB0 (by rw [hl, hlen]; simp) ?_
    rw [decide_eq_true hlen] at q
    have bad : ∀ {G : Hp} {j : Nat} {e : PyData}, Same H G → ds[j]? = some e → lineOk n c e = false → Q (.bl false) G := fun s he hf => by
      have := q _ s
      rw [all_false he hf] at this
      exact this
    refine ⟨.ref a, rfl, a, rfl, ⟨_, hS⟩, for_tup (K := K) (xs := xs) (fun i σ H' => ∃ y4 y5 y6, σ = [some (.int (n : Int)), some (.int (k : Int)), some (.int (c : Int)), some (.ref a), y4, y5, y6, none] ∧ Same H H' ∧ ∀ j e, j < i → ds[j]? = some e → lineOk n c e = true) ⟨_, _, _, rfl, Same.refl _, by intro j e hj; omega⟩ (fun i σ H' _ h => by obtain ⟨_, _, _, _, h, _⟩ := h; exact Same.tup h hS) ?_ ?_⟩
    rotate_left
    · rintro σ H1 ⟨y4, y5, y6, rfl, s1, hd⟩
      have := q _ s1
      rw [all_true fun j e hj he => hd j e (by omega) he] at this
      exact this
    rintro i y σ H1 hy ⟨y4, y5, y6, rfl, s1, hd⟩
    obtain ⟨e, he, hqe⟩ := hA.at hy
    have hqe' := Dq.same s1 hqe
    obtain ⟨T2, hT2, hkT2⟩ := tup_ty hqe'
    refine ⟨y, rfl, y, .ty "tuple", .type T2, .type "tuple", isTup e, rfl, .ty _, hT2, kit_ty hkT2, isTup e, rfl, ?_⟩
    by_cases ht2 : isTup e = true
    rotate_left
    · have ht3 : isTup e = false := by simpa using ht2
      rw [ht3]
      exact iteT (bad s1 he (by unfold lineOk; rw [ht3]; rfl))
    rw [ht2]
    refine iteF ?_
    obtain ⟨b, ys, es, rfl, rfl, hB, hE⟩ := isTup_inv hqe' ht2
    have hl2 := hE.len
    refine ⟨.ref b, rfl, b, _, rfl, .inr hB, _, rfl, _, _, rfl, rfl, rfl, _, rfl, ?_⟩
    by_cases hlen2 : es.length = c + 1
    rotate_left
    · refine iteB1 ?_ (bad s1 he ?_)
      · simp only [Bool.not_eq_true', decide_eq_false_iff_not]
        intro z
        have := V.int.inj z
        omega
      · unfold lineOk
        rw [show decide ((itemsD (PyData.tuple es)).length = c + 1) = false from decide_eq_false hlen2, Bool.false_and, Bool.and_false]
    refine iteB0 (by rw [hl2, hlen2]; simp) ?_
    have bad2 : ∀ {G : Hp} {j : Nat} {e : PyData}, Same H1 G → es[j]? = some e → cellsOk n e = false → Q (.bl false) G := fun s he2 hf => by
      refine bad (s1.trans s) he ?_
      unfold lineOk
      rw [show (itemsD (PyData.tuple es)).all (cellsOk n) = false from all_false he2 hf, Bool.and_false, Bool.and_false]
    refine ⟨.ref b, rfl, b, rfl, ⟨_, hB⟩, for_tup (K := K) (xs := ys) (fun j σ H' => ∃ y5 y6, σ = [some (.int (n : Int)), some (.int (k : Int)), some (.int (c : Int)), some (.ref a), some (.ref b), y5, y6, none] ∧ Same H1 H' ∧ ∀ j' e, j' < j → es[j']? = some e → cellsOk n e = true) ⟨_, _, rfl, Same.refl _, by intro j e hj; omega⟩ (fun i σ H' _ h => by obtain ⟨_, _, _, h, _⟩ := h; exact Same.tup h hB) ?_ ?_⟩
    rotate_left
    · rintro σ H2 ⟨y5, y6, rfl, s2, hd2⟩
      refine ⟨_, _, _, rfl, s1.trans s2, fun j e' hj he' => ?_⟩
      by_cases ej : j = i
      · subst ej
        rw [he] at he'
        cases he'
        unfold lineOk
        rw [show decide ((itemsD (PyData.tuple es)).length = c + 1) = true from decide_eq_true hlen2, show (itemsD (PyData.tuple es)).all (cellsOk n) = true from all_true fun j e hj he => hd2 j e (by rw [hl2]; exact hj) he]
        rfl
      · exact hd j e' (by omega) he'
    rintro j z σ H2 hz ⟨y5, y6, rfl, s2, hd2⟩
    obtain ⟨e2, he2, hqz⟩ := hE.at hz
    have hqz' := Dq.same s2 hqz
    refine ⟨_, rfl, z, rfl, z, e2, n, rfl, hqz', by omega, fun H3 s3 => ⟨shpD n e2, rfl, ?_⟩⟩
    have s23 := s2.trans s3
    by_cases hsh : shpD n e2 = true
    rotate_left
    · have hs' : shpD n e2 = false := by simpa using hsh
      rw [hs']
      exact iteT (bad2 s23 he2 (by unfold cellsOk; rw [hs']; rfl))
    rw [hsh]
    refine iteF ?_
    have hsh2 := hsh
    unfold shpD at hsh2
    simp only [Bool.and_eq_true, decide_eq_true_eq] at hsh2
    obtain ⟨g1, g2, g3⟩ := hsh2
    obtain ⟨t, zs, fs, rfl, rfl, hZ, hF⟩ := isTup_inv (Dq.same s3 hqz') g1
    have hl3 := hF.len
    have hfl : fs.length = n + 1 := g2
    have hshp : shpR n 0 fs = true := g3
    refine ⟨.ref t, rfl, t, rfl, ⟨_, hZ⟩, for_tup (K := K) (xs := zs) (fun m σ H' => ∃ y6, σ = [some (.int (n : Int)), some (.int (k : Int)), some (.int (c : Int)), some (.ref a), some (.ref b), some (.ref t), y6, none] ∧ Same H3 H' ∧ ∀ j' e, j' < m → fs[j']? = some e → (itemsD e).all isBndD = true) ⟨_, rfl, Same.refl _, by intro j e hj; omega⟩ (fun i σ H' _ h => by obtain ⟨_, _, h, _⟩ := h; exact Same.tup h hZ) ?_ ?_⟩
    rotate_left
    · rintro σ H4 ⟨y6, rfl, s4, hd3⟩
      refine ⟨_, _, rfl, s23.trans s4, fun j' e' hj he' => ?_⟩
      by_cases ej : j' = j
      · subst ej
        rw [he2] at he'
        cases he'
        unfold cellsOk
        rw [hsh]
        exact all_true fun m e hm he => hd3 m e (by rw [hl3]; exact hm) he
      · exact hd2 j' e' (by omega) he'
    rintro m u σ H4 hu ⟨y6, rfl, s4, hd3⟩
    obtain ⟨f, hf, hqu⟩ := hF.at hu
    have hqu' := Dq.same s4 hqu
    obtain ⟨p, us, gs, rfl, rfl, hP, hG⟩ := isTup_inv hqu' (shpR_at hshp hf).1
    have hl4 := hG.len
    have hgl : gs.length ≤ 61 := by
      have := (shpR_at hshp hf).2
      have : gs.length + (0 + m) = n + 1 := this
      omega
    refine ⟨.ref p, rfl, p, rfl, ⟨_, hP⟩, fun D nD => ?_⟩
    refine lc_bools (K := K) (walk_tup (xs := us)) (gs.map isBndD) (by rw [List.length_map, hl4]) (by omega) nD (fun H' s' => Same.tup s' hP) ?_ ?_ (fun x σ' H' Q Q' h => h _ _) (fun σ' H' Q Q' h => h _ _)
    · rintro r o Hx Hx' hr' sx ⟨rfl, ho⟩ bb hbb R hR
      obtain ⟨g, hg, hqg⟩ := hG.at ho
      rw [List.getElem?_map, hg] at hbb
      cases hbb
      exact ⟨rfl, rfl, or_bnd (Dq.same sx hqg) rfl (hR _ (Same.refl _))⟩
    · intro H5 s5 ha
      have e1 : (gs.map isBndD).all id = gs.all isBndD := by rw [List.all_map]; rfl
      refine ⟨D, _, rfl, .inl (.inl ha), ?_⟩
      rw [e1]
      have s45 := s4.trans s5
      by_cases hb : gs.all isBndD = true
      rotate_left
      · have hb' : gs.all isBndD = false := by simpa using hb
        rw [hb']
        refine ⟨false, rfl, iteT (bad2 (s23.trans s45) he2 ?_)⟩
        unfold cellsOk
        rw [show bndsD (PyData.tuple fs) = false from all_false hf hb', Bool.and_false]
      rw [hb]
      refine ⟨true, rfl, iteF ⟨_, rfl, s45, fun j' e' hj he' => ?_⟩⟩
      by_cases ej : j' = m
      · subst ej
        rw [hf] at he'
        cases he'
        exact hb
      · exact hd3 j' e' (by omega) he'
end
/-! ### the law's own check of the bounds -/
theorem mem_wbo44 {l r : Nat → Option Int} {c : Nat → Int} {i m : Nat} {p : Int × Int} : p ∈ wbo l r c i m ↔ ∃ t x y, t < m ∧ l t = some x ∧ r t = some y ∧ p = (x + y + c t, ((i + t : Nat) : Int)) := by
  unfold wbo
  rw [List.mem_filterMap]
  constructor
  · rintro ⟨t, ht, h⟩
    unfold wb1 at h
    split at h
    · next e1 e2 => exact ⟨t, _, _, List.mem_range.mp ht, e1, e2, (Option.some.inj h).symm⟩
    · cases h
  · rintro ⟨t, x, y, ht, e1, e2, rfl⟩
    exact ⟨t, List.mem_range.mpr ht, by unfold wb1; rw [e1, e2]⟩
theorem low1_pos {S R : Nat → Int} {L Rt : Nat → Nat → Option Int} {i m : Nat} {x : Int} (hm : m ≠ 0) : low1 S R L Rt i m x = true ↔ ∀ t y z, t < m → L i t = some y → Rt (i + t + 1) (m - 1 - t) = some z → x ≤ y + z + cst S R i m t := by
  unfold low1
  rw [if_neg hm]
  unfold lowV
  rw [List.all_eq_true]
  constructor
  · intro h t y z ht e1 e2
    exact of_decide_eq_true (h _ (mem_wbo44.mpr ⟨t, y, z, ht, e1, e2, rfl⟩))
  · intro h p hp
    obtain ⟨t, y, z, ht, e1, e2, rfl⟩ := mem_wbo44.mp hp
    exact decide_eq_true (h t y z ht e1 e2)
theorem nn_false {n l i m : Nat} {T : Nat → Nat → Option Int} (h : i + m ≤ n) (e : ((T i m).isNone == decide (l < m)) = false) : nnB n l T = false := by
  cases hh : nnB n l T with
  | false => rfl
  | true =>
    have := List.all_eq_true.mp (List.all_eq_true.mp hh i (List.mem_range.mpr (by omega))) m (List.mem_range.mpr (by omega))
    rw [e] at this; cases this
theorem low_false {S R : Nat → Int} {T L Rt : Nat → Nat → Option Int} {n i m : Nat} (h : i + m ≤ n) (e : lowO S R T L Rt (i, m) = false) : lowC S R T L Rt n = false := by
  cases hh : lowC S R T L Rt n with
  | false => rfl
  | true =>
    have := List.all_eq_true.mp hh (i, m) (mem_ivN.mpr h)
    rw [e] at this; cases this
def obsB (S R : Nat → Int) (n : Nat) (d : PyData) (b a : Nat) : Bool := nnB n (mxb b a) (Tc d b a) && lowC S R (Tc d b a) (TcL d b a) (TcR d b a) n
theorem obs_true {S R : Nat → Int} {n : Nat} {d : PyData} {b a : Nat} (h : ∀ i m, i + m ≤ n → ((Tc d b a i m).isNone == decide (mxb b a < m)) = true ∧ lowO S R (Tc d b a) (TcL d b a) (TcR d b a) (i, m) = true) : obsB S R n d b a = true := by
  unfold obsB
  rw [Bool.and_eq_true]
  refine ⟨List.all_eq_true.mpr fun i hi => List.all_eq_true.mpr fun m hm => ?_, List.all_eq_true.mpr fun p hp => ?_⟩
  · have := List.mem_range.mp hi
    have := List.mem_range.mp hm
    exact (h i m (by omega)).1
  · exact (h p.1 p.2 (mem_ivN.mp hp)).2
theorem cell_rd {K : PySem.W.Frag} {H : Hp} {p : Addr} {d : PyData} {k c n b a i m : Nat} (g : Good k c n d) (h : Dq K H (.ref p) d) (hb : b ≤ k) (ha : a ≤ c) (him : i + m ≤ n) :
    ∃ xs r ys t ts q os, SqT K H p xs ∧ xs[b]? = some (.ref r) ∧ SqT K H r ys ∧ ys[a]? = some (.ref t) ∧ SqT K H t ts ∧ ts[i]? = some (.ref q) ∧ SqT K H q os ∧ os[m]? = some (ov (Tc d b a i m)) := by
  obtain ⟨p', xs, r, ys, t, e, h1, h2, h3, h4, h5⟩ := g.at h hb ha
  cases e
  obtain ⟨t', ts, e, h6, _, h7⟩ := tabO_row h5
  cases e
  obtain ⟨q, h8, h9⟩ := h7 i (by omega)
  exact ⟨xs, r, ys, t, ts, q, _, h1, h2, h3, h4, h6, h8, h9, by rw [List.getElem?_map, rowO_at him]; rfl⟩
section
variable {P : Program} {w : World} {K : PySem.W.Frag} {mg : Str → Option Value} {base : Heap}
def sp_L_obeys (K : PySem.W.Frag) : Sp := fun vs H Q _ => ∃ (sa sb : Addr) (v : V) (d : PyData) (ss rs : List Int) (k c b a : Nat), vs = [.ref sa, .ref sb, v, .int (b : Int), .int (a : Int)] ∧ SqT K H sa (ss.map V.int) ∧ SqT K H sb (rs.map V.int) ∧ ss.length = rs.length ∧ ss.length ≤ 60 ∧ k ≤ 60 ∧ c ≤ 60 ∧ Dq K H v d ∧ Good k c ss.length d ∧ b ≤ k ∧ a ≤ c ∧
  ∀ H', Same H H' → Q (.bl (obsB (sm ss) (sm rs) ss.length d b a)) H'
theorem ok_L_obeys (TX : Tx K mg) : FnOk P w K mg base CX0 2 TX.a_L_obeys TX.fd_L_obeys ["_law_bulk", "_law_looks", "_law_thing", "_law_b", "_law_a"] (sp_L_obeys K) := by
  refine TX.f_L_obeys.ok sc_L_obeys (fun vs H Q E h => ?_) (fun cdv A outer s H vs Q E hr h => ?_)
  · obtain ⟨sa, sb, v, d, ss, rs, k, c, b, a, rfl, _⟩ := h; rfl
  · obtain ⟨sa, sb, v, d, ss, rs, k, c, b, a, rfl, hA, hB, he, hz, hk, hc, hq, hG, hb, ha, q⟩ := h
    refine ⟨_, (pss_cons (ps_par3 (i := 5) (j := 6) (l := 7) (by rfl) sc_L_obeys.nd rfl rfl rfl (by decide) (by decide) (by decide) rfl rfl rfl (pa_cons (pe_ix (k_ixT (K := K) rfl) (pe_ix (k_ixT (K := K) rfl) (pv 2) (pv 3) (fun _ _ => rfl)) (pv 4) (fun _ _ => rfl)) (pa_cons (pe_call (ok_L_sums TX) (hr.mono (by decide)) (by rfl) TX.g_L_sums TX.f_L_sums.kp TX.bd_L_sums .nil pass0 (pa_cons (pv 0) pa_nil)) (pa_cons (pe_call (ok_L_sums TX) (hr.mono (by decide)) (by rfl) TX.g_L_sums TX.f_L_sums.kp TX.bd_L_sums .nil pass0 (pa_cons (pv 1) pa_nil)) pa_nil))) (by rfl))
      (pss_cons (ps_for PassesOwn.never rfl (k_enumT (K := K) rfl (by rfl) TX.b_enumerate (pa_cons (pv 5) pa_nil)) (pg_tup rfl (pgs_cons (pg_name (i := 8) sc_L_obeys.nd rfl (.inl rfl)) (pgs_cons (pg_name (i := 9) sc_L_obeys.nd rfl (.inl rfl)) pgs_nil)))
        (pss_one (ps_for PassesOwn.never rfl (k_enumT (K := K) rfl (by rfl) TX.b_enumerate (pa_cons (pv 9) pa_nil)) (pg_tup rfl (pgs_cons (pg_name (i := 10) sc_L_obeys.nd rfl (.inl rfl)) (pgs_cons (pg_name (i := 11) sc_L_obeys.nd rfl (.inl rfl)) pgs_nil)))
          (pss_cons (ps_if (PW.pt (pw_or (pt_cmpR op_ne (pe_cmpR op_isN (pv 11) pe_non (nomark _)) (pe_cmpR op_gt (pv 10) (pe_call (ok_L_life TX) (hr.mono (by decide)) (by rfl) TX.g_L_life TX.f_L_life.kp TX.bd_L_life .nil pass0 (pa_cons (pv 3) (pa_cons (pv 4) pa_nil))) (nomark _)) (nomark _)) (pw_or1 (PW.pt (pw_and (pt_cmpR op_eq (pv 10) pe_int (nomark _)) (pw_and1 (pt_cmpR op_gt (pv 11) pe_int (nomark _))))))))
            (pss_one (ps_ret pe_bl))
            pss_nil)
          (pss_one (ps_for PassesOwn.never rfl (pi_range2 (by rfl) TX.b_range (pa_cons (pv 8) (pa_cons (pe_op op_add (pv 8) (pe_op op_mulW (pv 10) (pe_callTy (T := "int") call_int1 (by rfl) TX.b_int (by decide +kernel) (pa_cons (pe_cmpR op_notN (pv 11) pe_non (nomark _)) pa_nil)))) pa_nil))) (pg_name (i := 12) sc_L_obeys.nd rfl (.inl rfl))
            (pss_cons (ps_set (i := 13) sc_L_obeys.nd rfl (.inl rfl) (pe_op op_add (pv 8) (pv 10)))
            (pss_cons (ps_set (i := 14) sc_L_obeys.nd rfl (.inl rfl) (pe_ix (k_ixT (K := K) rfl) (pe_ix (k_ixT (K := K) rfl) (pe_ix (k_ixT (K := K) rfl) (pe_ix (k_ixT (K := K) rfl) (pv 2) (pv 3) (fun _ _ => rfl)) (pe_op op_sub (pv 4) pe_int) (fun _ _ => rfl)) (pv 8) (fun _ _ => rfl)) (pe_op op_sub (pv 12) (pv 8)) (fun _ _ => rfl)))
            (pss_cons (ps_set (i := 15) sc_L_obeys.nd rfl (.inl rfl) (pe_ix (k_ixT (K := K) rfl) (pe_ix (k_ixT (K := K) rfl) (pe_ix (k_ixT (K := K) rfl) (pe_ix (k_ixT (K := K) rfl) (pv 2) (pe_op op_sub (pv 3) pe_int) (fun _ _ => rfl)) (pv 4) (fun _ _ => rfl)) (pe_op op_add (pv 12) pe_int) (fun _ _ => rfl)) (pe_op op_sub (pe_op op_sub (pv 13) (pv 12)) pe_int) (fun _ _ => rfl)))
            (pss_cons (ps_set (i := 16) sc_L_obeys.nd rfl (.inl rfl) (pe_op op_sub (pe_op op_add (pe_op op_sub (pe_ix (k_ixL (K := K) rfl) (pv 6) (pe_op op_add (pv 12) pe_int) (fun _ _ => rfl)) (pe_ix (k_ixL (K := K) rfl) (pv 6) (pv 8) (fun _ _ => rfl))) (pe_ix (k_ixL (K := K) rfl) (pv 7) (pv 13) (fun _ _ => rfl))) (pe_ix (k_ixL (K := K) rfl) (pv 7) (pv 12) (fun _ _ => rfl))))
            (pss_one (ps_if (PW.pt (pw_and (pt_cmpR op_notN (pv 14) pe_non (nomark _)) (pw_and (pt_cmpR op_notN (pv 15) pe_non (nomark _)) (pw_and1 (pt_cmpR op_gt (pv 11) (pe_op op_add (pe_op op_add (pv 14) (pv 15)) (pv 16)) (nomark _))))))
              (pss_one (ps_ret pe_bl))
              pss_nil))))))))))))
      (pss_one (ps_ret pe_bl)))), ?_⟩
    obtain ⟨n, hn⟩ : ∃ n, n = ss.length := ⟨_, rfl⟩
    rw [← hn] at hG hz q
    obtain ⟨p, xs, r, ys, t, rfl, g1, g2, g3, g4, g5⟩ := hG.at hq hb ha
    refine ⟨.ref p, rfl, _, rfl, p, xs, _, _, rfl, rfl, g1, atI_nat g2, _, rfl, r, ys, _, _, rfl, rfl, g3, atI_nat g4, ?_⟩
    refine ⟨.ref sa, rfl, sa, ss, rfl, hA, by omega, fun H1 u1 s1 n1 f1 => ?_⟩
    refine ⟨.ref sb, rfl, sb, rs, rfl, Same.tup s1 hB, by omega, fun H2 u2 s2 n2 f2 => ?_⟩
    refine ⟨_, _, _, rfl, ?_⟩
    have f1 := s2 _ _ f1
    have s12 := s1.trans s2
    have hq2 := Dq.same s12 hq
    obtain ⟨t', ts, e0, hT, htl, hrow⟩ := tabO_row (Dp.same s12 g5)
    cases e0
    have bad1 : ∀ {G : Hp} {i m : Nat}, Same H G → i + m ≤ n → ((Tc d b a i m).isNone == decide (mxb b a < m)) = false → Q (.bl false) G := fun s h e => by
      have := q _ s
      unfold obsB at this
      rw [nn_false h e, Bool.false_and] at this
      exact this
    have bad2 : ∀ {G : Hp} {i m : Nat}, Same H G → i + m ≤ n → lowO (sm ss) (sm rs) (Tc d b a) (TcL d b a) (TcR d b a) (i, m) = false → Q (.bl false) G := fun s h e => by
      have := q _ s
      unfold obsB at this
      rw [low_false h e, Bool.and_false] at this
      exact this
    refine ⟨.ref t, rfl, t, ts, rfl, hT, for_it walk_enumT (fun i σ H' => ∃ y8 y9 y10 y11 y12 y13 y14 y15 y16, σ = [some (.ref sa), some (.ref sb), some (.ref p), some (.int (b : Int)), some (.int (a : Int)), some (.ref t), some (.ref u1), some (.ref u2), y8, y9, y10, y11, y12, y13, y14, y15, y16] ∧ Same H2 H' ∧
      ∀ i' m, i' < i → i' + m ≤ n → ((Tc d b a i' m).isNone == decide (mxb b a < m)) = true ∧ lowO (sm ss) (sm rs) (Tc d b a) (TcL d b a) (TcR d b a) (i', m) = true)
      ⟨_, _, _, _, _, _, _, _, _, rfl, Same.refl _, by intro i' m h; omega⟩ (fun i σ H' _ h => by obtain ⟨_, _, _, _, _, _, _, _, _, _, h, _⟩ := h; exact Same.tup h hT) ?_ ?_⟩
    rotate_left
    · rintro σ H3 ⟨y8, y9, y10, y11, y12, y13, y14, y15, y16, rfl, s3, hd⟩
      have := q _ (s12.trans s3)
      rw [obs_true fun i m h => hd i m (by omega) h] at this
      exact this
    rintro i x σ H3 H4 hi ⟨y8, y9, y10, y11, y12, y13, y14, y15, y16, rfl, s3, hd⟩ hy
    obtain ⟨Tp, x1, x2, rfl, nT, rfl, e1, e2⟩ := hy
    cases e1
    have hi2 : i ≤ n := by omega
    obtain ⟨rw_, hrw, hR⟩ := hrow i hi2
    dsimp only at e2
    rw [hrw] at e2
    cases e2
    have s4 := same_upd (o := .tup [V.int ((i : Nat) : Int), V.ref rw_]) nT
    have s34 := s3.trans s4
    refine ⟨Tp, _, rfl, .inl (.inl upd_same), rfl, _, _, rfl, _, [], rfl, rfl, ?_⟩
    generalize upd H3 Tp (.tup [V.int ((i : Nat) : Int), V.ref rw_]) = H4 at s4 s34 ⊢
    refine ⟨.ref rw_, rfl, rw_, _, rfl, Same.tup s34 hR, for_it walk_enumT (fun m σ H' => ∃ y10 y11 y12 y13 y14 y15 y16, σ = [some (.ref sa), some (.ref sb), some (.ref p), some (.int (b : Int)), some (.int (a : Int)), some (.ref t), some (.ref u1), some (.ref u2), some (.int (i : Int)), some (.ref rw_), y10, y11, y12, y13, y14, y15, y16] ∧ Same H2 H' ∧
      ∀ m', m' < m → i + m' ≤ n → ((Tc d b a i m').isNone == decide (mxb b a < m')) = true ∧ lowO (sm ss) (sm rs) (Tc d b a) (TcL d b a) (TcR d b a) (i, m') = true)
      ⟨_, _, _, _, _, _, _, rfl, s34, by intro m' h; omega⟩ (fun i σ H' _ h => by obtain ⟨_, _, _, _, _, _, _, _, h, _⟩ := h; exact Same.tup h hR) ?_ ?_⟩
    rotate_left
    · rintro σ H5 ⟨y10, y11, y12, y13, y14, y15, y16, rfl, s5, hdi⟩
      refine ⟨_, _, _, _, _, _, _, _, _, rfl, s5, fun i' m h1 h2 => ?_⟩
      by_cases e : i' = i
      · subst e
        exact hdi m (by rw [List.length_map, rowO_len]; omega) h2
      · exact hd i' m (by omega) h2
    rintro m x σ H5 H6 hm ⟨y10, y11, y12, y13, y14, y15, y16, rfl, s5, hdi⟩ hy
    obtain ⟨Tq, x1, x2, rfl, nT2, rfl, e1, e2⟩ := hy
    cases e1
    rw [List.length_map, rowO_len] at hm
    have him : i + m ≤ n := by omega
    dsimp only at e2
    rw [List.getElem?_map, rowO_at him] at e2
    cases e2
    have s6 := same_upd (o := .tup [V.int ((m : Nat) : Int), ov (Tc d b a i m)]) nT2
    have s56 := s5.trans s6
    refine ⟨Tq, _, rfl, .inl (.inl upd_same), rfl, _, _, rfl, _, [], rfl, rfl, ?_⟩
    generalize upd H5 Tq (.tup [V.int ((m : Nat) : Int), ov (Tc d b a i m)]) = H6 at s6 s56 ⊢
    have s06 := s12.trans s56
    obtain ⟨o, ho⟩ : ∃ o, o = Tc d b a i m := ⟨_, rfl⟩
    rw [← ho]
    have done : ∀ {G : Hp} {y10 y11 y12 y13 y14 y15 y16 : Option V}, Same H2 G → (((Tc d b a i m).isNone == decide (mxb b a < m)) = true) → lowO (sm ss) (sm rs) (Tc d b a) (TcL d b a) (TcR d b a) (i, m) = true →
        ∃ z10 z11 z12 z13 z14 z15 z16, [some (.ref sa), some (.ref sb), some (.ref p), some (.int (b : Int)), some (.int (a : Int)), some (.ref t), some (.ref u1), some (.ref u2), some (.int (i : Int)), some (.ref rw_), y10, y11, y12, y13, y14, y15, y16] = [some (.ref sa), some (.ref sb), some (.ref p), some (.int (b : Int)), some (.int (a : Int)), some (.ref t), some (.ref u1), some (.ref u2), some (V.int (i : Int)), some (.ref rw_), z10, z11, z12, z13, z14, z15, z16] ∧ Same H2 G ∧
          ∀ m', m' < m + 1 → i + m' ≤ n → ((Tc d b a i m').isNone == decide (mxb b a < m')) = true ∧ lowO (sm ss) (sm rs) (Tc d b a) (TcL d b a) (TcR d b a) (i, m') = true := fun s e1 e2 => ⟨_, _, _, _, _, _, _, rfl, s, fun m' h1 h2 => by
      by_cases e : m' = m
      · rw [e]; exact ⟨e1, e2⟩
      · exact hdi m' (by omega) h2⟩
    cases o with
    | none =>
      refine ⟨_, rfl, rfl, _, rfl, _, rfl, _, rfl, b, a, rfl, by omega, by omega, fun H7 s7 => ⟨_, _, rfl, rfl, rfl, _, rfl, ?_⟩⟩
      have s27 := s56.trans s7
      by_cases hnn : mxb b a < m
      · refine iteB0 (by simp [ov, hnn]) ?_
        refine ⟨_, rfl, rfl, _, rfl, iteB0 (by simp; omega) (iteF ?_)⟩
        have ez : (if (!decide (ov none = V.non)) = true then (1 : Int) else 0) = 0 := by simp [ov]
        refine ⟨_, rfl, _, rfl, _, rfl, _, rfl, rfl, .inr ⟨_, rfl, _, _, rfl, rfl, (by rw [ez]; exact wide_mul (a := 61) (b := 2) (by omega) (by decide) (by decide) (by decide) (by decide)), _, _, rfl, rfl, _, _, rfl, (by rw [ez]; exact ⟨by omega, by omega, by omega, by omega⟩), ?_⟩⟩
        refine for_range (lo := ((i : Nat) : Int)) (fun t' σ H' => ∃ y12 y13 y14 y15 y16, σ = [some (.ref sa), some (.ref sb), some (.ref p), some (.int (b : Int)), some (.int (a : Int)), some (.ref t), some (.ref u1), some (.ref u2), some (.int (i : Int)), some (.ref rw_), some (.int (m : Int)), some (ov none), y12, y13, y14, y15, y16] ∧ Same H2 H') ⟨_, _, _, _, _, rfl, s27⟩ ?_ ?_
        · intro t' σ G ht'
          rw [ez] at ht'
          omega
        · rintro σ G ⟨y12, y13, y14, y15, y16, rfl, sg⟩
          refine done sg ?_ ?_
          · rw [← ho]; simp [hnn]
          · unfold lowO; dsimp only; rw [← ho]
      · refine iteB1 (by simp [ov, hnn]) (bad1 (s06.trans s7) him ?_)
        rw [← ho]
        simp [hnn]
    | some x =>
      refine ⟨_, rfl, rfl, _, rfl, _, rfl, _, rfl, b, a, rfl, by omega, by omega, fun H7 s7 => ⟨_, _, rfl, rfl, rfl, _, rfl, ?_⟩⟩
      have s27 := s56.trans s7
      by_cases hnn : mxb b a < m
      · refine iteB1 (by simp [ov, hnn]) (bad1 (s06.trans s7) him ?_)
        rw [← ho]
        simp [hnn]
      refine iteB0 (by simp [ov, hnn]) ?_
      have hnn' : ((Tc d b a i m).isNone == decide (mxb b a < m)) = true := by rw [← ho]; simp [hnn]
      by_cases hm0 : m = 0
      case' pos =>
        refine ⟨_, rfl, rfl, _, rfl, iteB1 (by simp [hm0]) ⟨_, rfl, _, _, rfl, rfl, _, rfl, ?_⟩⟩
        by_cases hx : 0 < x
        · refine decT hx (bad2 (s06.trans s7) him ?_)
          unfold lowO; dsimp only; rw [← ho]
          show low1 _ _ _ _ i m x = false
          unfold low1
          rw [if_pos hm0, decide_eq_false (by omega)]
        refine decF hx ?_
        have hlow0 : m = 0 → x ≤ 0 := fun _ => by omega
      case' neg =>
        refine ⟨_, rfl, rfl, _, rfl, iteB0 (by simp; omega) (iteF ?_)⟩
        have hlow0 : m = 0 → x ≤ 0 := fun z => absurd z hm0
      all_goals (
        have ez : (if (!decide (ov (some x) = V.non)) = true then (1 : Int) else 0) = 1 := by simp [ov]
        refine ⟨_, rfl, _, rfl, _, rfl, _, rfl, rfl, .inr ⟨_, rfl, _, _, rfl, rfl, (by rw [ez]; exact wide_mul (a := 61) (b := 2) (by omega) (by decide) (by decide) (by decide) (by decide)), _, _, rfl, rfl, _, _, rfl, (by rw [ez]; exact ⟨by omega, by omega, by omega, by omega⟩), ?_⟩⟩
        refine for_range (lo := ((i : Nat) : Int)) (fun t' σ H' => ∃ y12 y13 y14 y15 y16, σ = [some (.ref sa), some (.ref sb), some (.ref p), some (.int (b : Int)), some (.int (a : Int)), some (.ref t), some (.ref u1), some (.ref u2), some (.int (i : Int)), some (.ref rw_), some (.int (m : Int)), some (ov (some x)), y12, y13, y14, y15, y16] ∧ Same H2 H' ∧
          ∀ t, t < t' → ∀ y z, TcL d b a i t = some y → TcR d b a (i + t + 1) (m - 1 - t) = some z → x ≤ y + z + cst (sm ss) (sm rs) i m t) ⟨_, _, _, _, _, rfl, s27, by intro t h; omega⟩ ?_ ?_
        rotate_left
        · rintro σ G ⟨y12, y13, y14, y15, y16, rfl, sg, hall⟩
          rw [ez] at hall
          refine done sg hnn' ?_
          unfold lowO; dsimp only; rw [← ho]
          show low1 _ _ _ _ i m x = true
          by_cases hm1 : m = 0
          · unfold low1
            rw [if_pos hm1, decide_eq_true (hlow0 hm1)]
          · exact (low1_pos hm1).mpr fun t y z ht e1 e2 => hall t (by omega) y z e1 e2
        rintro t' σ G ht' ⟨y12, y13, y14, y15, y16, rfl, sg, hall⟩
        rw [ez] at ht'
        have htm : t' < m := by omega
        have hb1 : b ≠ 0 := fun z => by rw [z, mxb_b0] at hnn; omega
        have ha1 : a ≠ 0 := fun z => by rw [z, mxb_a0] at hnn; omega
        have hqG := Dq.same sg hq2
        obtain ⟨xs1, r1, ys1, t1, ts1, q1, os1, a1, a2, a3, a4, a5, a6, a7, a8⟩ := cell_rd hG hqG hb (show a - 1 ≤ c by omega) (show i + t' ≤ n by omega)
        obtain ⟨xs2, r2, ys2, t2, ts2, q2, os2, c1, c2, c3, c4, c5, c6, c7, c8⟩ := cell_rd (i := i + t' + 1) (m := m - 1 - t') hG hqG (show b - 1 ≤ k by omega) ha (by omega)
        have eL : TcL d b a = Tc d b (a - 1) := if_neg ha1
        have eR : TcR d b a = Tc d (b - 1) a := if_neg hb1
        have C1 := sg _ _ f1
        have C2 := sg _ _ f2
        have et : ((i : Nat) : Int) + ((t' : Nat) : Int) = ((i + t' : Nat) : Int) := by omega
        have ej : ((i : Nat) : Int) + ((m : Nat) : Int) = ((i + m : Nat) : Int) := by omega
        have ea : ((a : Nat) : Int) - 1 = ((a - 1 : Nat) : Int) := by omega
        have eb : ((b : Nat) : Int) - 1 = ((b - 1 : Nat) : Int) := by omega
        have et1 : ((i + t' : Nat) : Int) + 1 = ((i + t' + 1 : Nat) : Int) := by omega
        have et2 : ((i + t' : Nat) : Int) - ((i : Nat) : Int) = ((t' : Nat) : Int) := by omega
        have et3 : ((i + m : Nat) : Int) - ((i + t' : Nat) : Int) - 1 = ((m - 1 - t' : Nat) : Int) := by omega
        rw [et]
        refine ⟨_, rfl, _, rfl, _, _, rfl, rfl, ?_⟩
        dsimp only
        rw [ej]
        refine ⟨.ref p, rfl, _, rfl, p, xs1, _, _, rfl, rfl, a1, atI_nat a2, _, rfl, _, _, rfl, rfl, r1, ys1, _, _, rfl, rfl, a3, (by rw [ea]; exact atI_nat a4), _, rfl, t1, ts1, _, _, rfl, rfl, a5, atI_nat a6, _, rfl, _, rfl, _, _, rfl, rfl, q1, os1, _, _, rfl, rfl, a7, (by rw [et2]; exact atI_nat a8), ?_⟩
        refine ⟨.ref p, rfl, _, rfl, _, _, rfl, rfl, p, xs2, _, _, rfl, rfl, c1, (by rw [eb]; exact atI_nat c2), _, rfl, r2, ys2, _, _, rfl, rfl, c3, atI_nat c4, _, rfl, _, _, rfl, rfl, t2, ts2, _, _, rfl, rfl, c5, (by rw [et1]; exact atI_nat c6), _, rfl, _, rfl, _, _, rfl, rfl, _, _, rfl, rfl, q2, os2, _, _, rfl, rfl, c7, (by rw [et3]; exact atI_nat c8), ?_⟩
        refine ⟨.ref u1, rfl, _, rfl, _, _, rfl, rfl, u1, _, _, _, rfl, rfl, .inl (.inl C1), (by rw [et1]; exact atI_nat (sms_at (by omega))), .ref u1, rfl, _, rfl, u1, _, _, _, rfl, rfl, .inl (.inl C1), atI_nat (sms_at (by omega)), _, _, rfl, rfl, ?_⟩
        refine ⟨.ref u2, rfl, _, rfl, u2, _, _, _, rfl, rfl, .inl (.inl C2), atI_nat (sms_at (by omega)), _, _, rfl, rfl, .ref u2, rfl, _, rfl, u2, _, _, _, rfl, rfl, .inl (.inl C2), atI_nat (sms_at (by omega)), _, _, rfl, rfl, ?_⟩
        have ec : cst (sm ss) (sm rs) i m t' = sm ss (i + t' + 1) - sm ss i + sm rs (i + m) - sm rs (i + t') := rfl
        have next : (∀ y z, TcL d b a i t' = some y → TcR d b a (i + t' + 1) (m - 1 - t') = some z → x ≤ y + z + cst (sm ss) (sm rs) i m t') → ∀ t, t < t' + 1 → ∀ y z, TcL d b a i t = some y → TcR d b a (i + t + 1) (m - 1 - t) = some z → x ≤ y + z + cst (sm ss) (sm rs) i m t := fun h t ht y z e1 e2 => by
          by_cases e : t = t'
          · subst e; exact h y z e1 e2
          · exact hall t (by omega) y z e1 e2
        cases el : Tc d b (a - 1) i t' with
        | none =>
          refine ⟨_, rfl, rfl, _, rfl, iteB0 (by simp [ov]) (iteF ⟨_, _, _, _, _, rfl, sg, next fun y z e1 _ => ?_⟩)⟩
          rw [eL, el] at e1; cases e1
        | some y =>
          refine ⟨_, rfl, rfl, _, rfl, iteB1 (by simp [ov]) ?_⟩
          cases er : Tc d (b - 1) a (i + t' + 1) (m - 1 - t') with
          | none =>
            refine ⟨_, rfl, rfl, _, rfl, iteB0 (by simp [ov]) (iteF ⟨_, _, _, _, _, rfl, sg, next fun y z _ e2 => ?_⟩)⟩
            rw [eR, er] at e2; cases e2
          | some z =>
            refine ⟨_, rfl, rfl, _, rfl, iteB1 (by simp [ov]) ?_⟩
            refine ⟨_, rfl, _, rfl, _, rfl, _, _, rfl, rfl, _, rfl, _, _, rfl, rfl, _, _, rfl, rfl, _, rfl, ?_⟩
            by_cases hv : y + z + (sm ss (i + t' + 1) - sm ss i + sm rs (i + m) - sm rs (i + t')) < x
            · refine decT hv (bad2 (s12.trans sg) him ?_)
              unfold lowO; dsimp only; rw [← ho]
              show low1 _ _ _ _ i m x = false
              cases hh : low1 (sm ss) (sm rs) (TcL d b a) (TcR d b a) i m x with
              | false => rfl
              | true =>
                have := (low1_pos (by omega)).mp hh t' y z htm (by rw [eL]; exact el) (by rw [eR]; exact er)
                omega
            · refine decF hv ⟨_, _, _, _, _, rfl, sg, next fun y' z' e1 e2 => ?_⟩
              rw [eL, el] at e1
              rw [eR, er] at e2
              cases e1; cases e2
              omega)
end
theorem k_allN {X : Cx} {K : PySem.W.Frag} (hK : X.K = K) (hc : X.calm = true) : CallR X (.builtin "all") (rAll K) := by subst hK; exact cr_all hc
abbrev NSC_L_certifies : Scope := { kind := ScopeKind.function, names := [(Str.ofString ".0", NameKind.local), (Str.ofString "_law_b", NameKind.cell), (Str.ofString "all", NameKind.globalImplicit), (Str.ofString "range", NameKind.globalImplicit), (Str.ofString "_law_bulk", NameKind.cell), (Str.ofString "_law_c", NameKind.cell), (Str.ofString "_law_looks", NameKind.cell), (Str.ofString "_law_thing", NameKind.cell)], isGenerator := false, isCoroutine := false }
/-! ### the law's own certificate; what both tell -/
theorem shD_grid {n k c : Nat} {d : PyData} (h : shD n k c d = true) : Good k c n d := by
  unfold shD at h
  simp only [Bool.and_eq_true, decide_eq_true_eq] at h
  obtain ⟨h1, h2, h3⟩ := h
  refine ⟨?_, fun b a hb ha => ?_⟩
  · unfold gridD
    rw [h1, Bool.true_and, decide_eq_true h2, Bool.true_and, List.all_eq_true]
    intro r hr
    have := List.all_eq_true.mp h3 r hr
    unfold lineOk at this
    simp only [Bool.and_eq_true, decide_eq_true_eq] at this
    rw [this.1, Bool.true_and]
    exact decide_eq_true this.2.1
  · obtain ⟨e, he⟩ : ∃ e, (itemsD d)[b]? = some e := ⟨_, List.getElem?_eq_getElem (by omega)⟩
    have h4 := List.all_eq_true.mp h3 e (List.mem_of_getElem? he)
    unfold lineOk at h4
    simp only [Bool.and_eq_true, decide_eq_true_eq] at h4
    obtain ⟨z, hz⟩ : ∃ z, (itemsD e)[a]? = some z := ⟨_, List.getElem?_eq_getElem (by omega)⟩
    have h5 := List.all_eq_true.mp h4.2.2 z (List.mem_of_getElem? hz)
    unfold cellsOk at h5
    simp only [Bool.and_eq_true] at h5
    have e1 : cellD d b a = z := by
      unfold cellD
      rw [List.getD_eq_getElem?_getD (l := itemsD d), he]
      show (itemsD e).getD a .none = z
      rw [List.getD_eq_getElem?_getD, hz]; rfl
    rw [e1]
    exact h5
theorem grid_shD {n k c : Nat} {d : PyData} (g : Good k c n d) : shD n k c d = true := by
  have h := g.grid
  unfold gridD at h
  simp only [Bool.and_eq_true, decide_eq_true_eq] at h
  obtain ⟨h1, h2, h3⟩ := h
  unfold shD
  rw [h1, Bool.true_and, decide_eq_true h2, Bool.true_and]
  refine all_true fun b e hb he => ?_
  have h4 := List.all_eq_true.mp h3 e (List.mem_of_getElem? he)
  simp only [Bool.and_eq_true, decide_eq_true_eq] at h4
  unfold lineOk
  rw [h4.1, Bool.true_and, decide_eq_true h4.2, Bool.true_and]
  refine all_true fun a z ha hz => ?_
  have e1 : cellD d b a = z := by
    unfold cellD
    rw [List.getD_eq_getElem?_getD (l := itemsD d), he]
    show (itemsD e).getD a .none = z
    rw [List.getD_eq_getElem?_getD, hz]; rfl
  have := g.cell b a (by omega) (by omega)
  rw [e1] at this
  unfold cellsOk
  rw [this.1, this.2]; rfl
def certD (S R : Nat → Int) (n k c : Nat) (d : PyData) : Bool := shD n k c d && (bgs k c).all fun p => obsB S R n d p.1 p.2
/-- the program's word is the law's -/
theorem sw_cert {S R : Nat → Int} {n k c : Nat} {dx d : PyData} : swD S R n k c dx d = (isBndD dx && (certD S R n k c d && decide (Tc d k c 0 n = numO dx))) := by
  unfold swD
  congr 1
  rw [← Bool.and_assoc, ← Bool.and_assoc]
  congr 1
  rw [Bool.eq_iff_iff]
  unfold certD
  simp only [Bool.and_eq_true]
  constructor
  · rintro ⟨⟨h1, h2⟩, h3⟩
    refine ⟨grid_shD (good_of h1 h2), List.all_eq_true.mpr fun p hp => ?_⟩
    have a1 := List.all_eq_true.mp h2 p hp
    have a2 := List.all_eq_true.mp h3 p hp
    unfold hbD at a1
    simp only [Bool.and_eq_true] at a1
    unfold obsB
    rw [Bool.and_eq_true]
    exact ⟨a1.2.2, a2⟩
  · rintro ⟨h1, h2⟩
    have g := shD_grid h1
    refine ⟨⟨g.grid, List.all_eq_true.mpr fun p hp => ?_⟩, List.all_eq_true.mpr fun p hp => ?_⟩
    · have a1 := List.all_eq_true.mp h2 p hp
      unfold obsB at a1
      rw [Bool.and_eq_true] at a1
      obtain ⟨c1, c2⟩ := g.cell p.1 p.2 (mem_bgs.mp hp).1 (mem_bgs.mp hp).2
      unfold hbD
      rw [c1, c2]
      exact a1.1
    · have a1 := List.all_eq_true.mp h2 p hp
      unfold obsB at a1
      rw [Bool.and_eq_true] at a1
      exact a1.2
section
variable {P : Program} {w : World} {K : PySem.W.Frag} {mg : Str → Option Value} {base : Heap}
def sp_L_certifies (K : PySem.W.Frag) : Sp := fun vs H Q _ => ∃ (sa sb : Addr) (v : V) (d : PyData) (ss rs : List Int) (k c : Nat), vs = [.ref sa, .ref sb, .int (k : Int), .int (c : Int), v] ∧ SqT K H sa (ss.map V.int) ∧ SqT K H sb (rs.map V.int) ∧ ss.length = rs.length ∧ ss.length ≤ 60 ∧ k ≤ 60 ∧ c ≤ 60 ∧ Dq K H v d ∧
  ∀ H', Same H H' → Q (.bl (certD (sm ss) (sm rs) ss.length k c d)) H'
theorem ok_L_certifies (TX : Tx K mg) : FnOk P w K mg base CX0 3 TX.a_L_certifies TX.fd_L_certifies ["_law_bulk", "_law_looks", "_law_k", "_law_c", "_law_thing"] (sp_L_certifies K) := by
  refine TX.f_L_certifies.ok sc_L_certifies (fun vs H Q E h => ?_) (fun cdv A outer s H vs Q E hr h => ?_)
  · obtain ⟨sa, sb, v, d, ss, rs, k, c, rfl, _⟩ := h; rfl
  · obtain ⟨sa, sb, v, d, ss, rs, k, c, rfl, hA, hB, he, hz, hk, hc, hq, q⟩ := h
    refine ⟨_, (pss_cons (ps_if (pt_not (pt_val (pe_call (ok_L_has_all_shapes TX) (hr.mono (by decide)) (by rfl) TX.g_L_has_all_shapes TX.f_L_has_all_shapes.kp TX.bd_L_has_all_shapes .nil pass0 (pa_cons (pe_callB (id := "len") (k_len (K := K) rfl) (by rfl) TX.b_len (by decide +kernel) (pa_cons (pv 0) pa_nil)) (pa_cons (pv 2) (pa_cons (pv 3) (pa_cons (pv 4) pa_nil)))))))
        (pss_one (ps_ret pe_bl))
        pss_nil)
      (pss_one (ps_ret (pe_callB (id := "all") (cr_all rfl) (by rfl) TX.b_all (by decide +kernel) (pa_cons (pe_lc (own := [("_law_b", 5)]) (by rfl) sc_L_certifies.nd (pi_range1 (by rfl) TX.b_range (pa_cons (pe_op op_add (pv 2) pe_int) pa_nil)) (blkOk_by (own := [("_law_b", 5)]) (N := N_L_certifies) (sc := defScope s_L_certifies) (by decide +kernel)) (fun _ _ _ _ _ => (pg_name (i := 5) sc_L_certifies.nd rfl (Or.inr rfl))) (fun _ _ _ _ _ => pts_nil) (fun _ _ _ _ _ => (pe_callB (id := "all") (k_allN (K := K) rfl rfl) (by rfl) TX.b_all (by decide +kernel) (pa_cons (pe_lc (own := [("_law_a", 6)]) (by rfl) sc_L_certifies.nd (pi_range1 (by rfl) TX.b_range (pa_cons (pe_op op_add (pv 3) pe_int) pa_nil)) (blkOk_by (own := [("_law_a", 6)]) (N := N_L_certifies) (sc := NSC_L_certifies) (by decide +kernel)) (fun _ _ _ _ _ => (pg_name (i := 6) sc_L_certifies.nd rfl (Or.inl rfl))) (fun _ _ _ _ _ => pts_nil) (fun _ _ _ _ _ => (pe_call (ok_L_obeys TX) (hr.mono (by decide)) (by rfl) TX.g_L_obeys TX.f_L_obeys.kp TX.bd_L_obeys .nil pass0 (pa_cons (pv 0) (pa_cons (pv 1) (pa_cons (pv 4) (pa_cons (pv 5) (pa_cons (pv 6) pa_nil)))))))) pa_nil)))) pa_nil))))), ?_⟩
    unfold certD at q
    refine ⟨.ref sa, rfl, sa, _, rfl, .inr hA, _, rfl, _, rfl, v, rfl, v, d, ss.length, k, c, (by rw [List.length_map]; rfl), hq, hz, hk, hc, fun H1 s1 => ⟨shD ss.length k c d, rfl, ?_⟩⟩
    by_cases hs : shD ss.length k c d = true
    rotate_left
    · have hs' : shD ss.length k c d = false := by simpa using hs
      rw [hs'] at q ⊢
      exact iteT (q _ s1)
    rw [hs] at q ⊢
    refine iteF ?_
    have hG := shD_grid hs
    refine ⟨_, rfl, _, _, rfl, rfl, _, rfl, by omega, by omega, fun D nD => ?_⟩
    refine lc_bools (K := K) walk_range ((List.range (k + 1)).map fun b => ((List.range (c + 1)).map fun a => obsB (sm ss) (sm rs) ss.length d b a).all id) (by simp <;> omega) (by omega) nD (fun _ _ => trivial) ?_ ?_ (fun x σ' H' Q Q' h => h _ _) (fun σ' H' Q Q' h => h _ _)
    · rintro i x Hx Hx' hi sx hy bb hbb R hR
      obtain ⟨rfl, rfl⟩ := hy
      have hi2 : i < k + 1 := by omega
      rw [List.getElem?_map, List.getElem?_range hi2] at hbb
      cases hbb
      have ei : (0 : Int) + ((i : Nat) : Int) = ((i : Nat) : Int) := by omega
      dsimp only at hR ⊢
      rw [ei]
      refine ⟨rfl, rfl, _, rfl, _, _, rfl, rfl, _, rfl, by omega, by omega, fun D2 nD2 => ?_⟩
      refine lc_bools (K := K) walk_range ((List.range (c + 1)).map fun a => obsB (sm ss) (sm rs) ss.length d i a) (by simp <;> omega) (by omega) nD2 (fun _ _ => trivial) ?_ ?_ (fun x σ' H' Q Q' h => h _ _) (fun σ' H' Q Q' h => h _ _)
      · rintro j y Hy Hy' hj sy hy bb2 hbb2 R2 hR2
        obtain ⟨rfl, rfl⟩ := hy
        have hj2 : j < c + 1 := by omega
        rw [List.getElem?_map, List.getElem?_range hj2] at hbb2
        cases hbb2
        have ej : (0 : Int) + ((j : Nat) : Int) = ((j : Nat) : Int) := by omega
        dsimp only at hR2 ⊢
        rw [ej]
        have s0 := s1.trans (sx.trans sy)
        exact ⟨rfl, rfl, .ref sa, rfl, .ref sb, rfl, v, rfl, _, rfl, _, rfl, sa, sb, v, d, ss, rs, k, c, i, j, rfl, Same.tup s0 hA, Same.tup s0 hB, he, hz, hk, hc, Dq.same s0 hq, hG, by omega, by omega, fun H6 s6 => hR2 _ s6⟩
      · intro H6 s6 ha
        exact ⟨D2, _, rfl, .inl (.inl ha), hR _ s6⟩
    · intro H5 s5 ha
      refine ⟨D, _, rfl, .inl (.inl ha), ?_⟩
      have e : ((List.range (k + 1)).map fun b => ((List.range (c + 1)).map fun a => obsB (sm ss) (sm rs) ss.length d b a).all id).all id = (bgs k c).all fun p => obsB (sm ss) (sm rs) ss.length d p.1 p.2 := by
        unfold bgs
        rw [List.all_flatMap, List.all_map]
        refine congrArg (List.all _) (funext fun b => ?_)
        rw [List.all_map]
        show ((List.range (c + 1)).map fun a => obsB (sm ss) (sm rs) ss.length d b a).all id = _
        rw [List.all_map]; rfl
      rw [e]
      exact q _ (s1.trans s5)
end
/-! ### what a comprehension's list D and the draws' list a leave as it is -/
def B2 (D a : Addr) (H H' : Hp) : Prop := ∀ b o, b ≠ D → b ≠ a → H b = some o → H' b = some o
theorem B2.off {D a : Addr} {H H' : Hp} (h : B2 D a H H') : Same (off D (off a H)) (off D (off a H')) := fun b o e => by
  by_cases h1 : b = D
  · unfold MB.off at e; rw [if_pos h1] at e; cases e
  · rw [off_at h1] at e ⊢
    by_cases h2 : b = a
    · unfold MB.off at e; rw [if_pos h2] at e; cases e
    · rw [off_at h2] at e ⊢
      exact h b o h1 h2 e
theorem B2.of {D a : Addr} {H H' : Hp} (h : But a H H') : B2 D a H H' := fun b o _ h2 e => h b o h2 e
theorem B2.trans {D a : Addr} {H H1 H2 : Hp} (h : B2 D a H H1) (h' : B2 D a H1 H2) : B2 D a H H2 := fun b o h1 h2 e => h' b o h1 h2 (h b o h1 h2 e)
theorem B2.upd {D a : Addr} {H : Hp} {o : HO} : B2 D a H (L2.upd H D o) := fun b u h1 _ e => by rw [upd_ne h1]; exact e
theorem B2.but {D a : Addr} {H H' : Hp} (h : B2 D a H H') (n : H D = none) : But a H H' := fun b o h2 e => h b o (fun z => by rw [z, n] at e; cases e) h2 e
theorem off_free {D a : Addr} {H : Hp} (n : H D = none) : Same (off a H) (off D (off a H)) := fun b o e => by
  have : b ≠ D := fun z => by
    by_cases h : b = a
    · unfold off at e; rw [if_pos h] at e; cases e
    · rw [off_at h, z, n] at e; cases e
  rw [off_at this]; exact e
theorem off_tup1 {K : PySem.W.Frag} {H : Hp} {a p : Addr} {la xs : List V} (ha : H a = some (.lst la)) (h : SqT K H p xs) : SqT K (off a H) p xs := by
  have at' : ∀ u, H p = some u → (∀ l, u ≠ .lst l) → (off a H) p = some u := fun u e n => by
    rw [off_at fun z => n la (by rw [z, ha] at e; exact (Option.some.inj e).symm)]; exact e
  rcases h with (h | ⟨o, h⟩) | h
  · exact .inl (.inl (at' _ h fun _ z => nomatch z))
  · exact .inl (.inr ⟨o, at' _ h fun _ z => nomatch z⟩)
  · exact .inr h
theorem dpAll_dq {K : PySem.W.Frag} {H H2 : Hp} : ∀ {ds : List PyData} {xs : List V}, (∀ d, d ∈ ds → ∀ x, Dp K H x d → Dq K H2 x d) → DpAll K H xs ds → DqAll K H2 xs ds
  | _, _, _, .nil => .nil
  | _, _, h, .cons a b => .cons (h _ (List.mem_cons_self ..) _ a) (dpAll_dq (fun d hd => h d (List.mem_cons_of_mem _ hd)) b)
theorem dp_dq {K : PySem.W.Frag} {H H2 : Hp} (e : ∀ p xs, SqT K H p xs → SqT K H2 p xs) {d : PyData} (h : Tb d) : ∀ x, Dp K H x d → Dq K H2 x d := by
  induction h with
  | int hi => intro x hp; cases hp; exact .intq _
  | non => intro x hp; cases hp; exact .nonq
  | tup h ih => intro x hp; cases hp with | tup hs ha => exact .tupq (e _ _ hs) (dpAll_dq ih ha)
theorem Dq.offPot {K : PySem.W.Frag} {H : Hp} {a : Addr} {n : Int} {x : V} {d : PyData} (hp : Pot H a n) (ht : Tb d) (h : Dp K H x d) : Dq K (MB.off a H) x d := by
  obtain ⟨_, _, _, ha, _⟩ := hp
  exact dp_dq (fun p xs hs => off_tup1 ha hs) ht _ h
/-- a value of any kind beside the draws' list -/
def AV (K : PySem.W.Frag) (a : Addr) (H : Hp) (x : V) : Prop := ∃ d, Dq K (off a H) x d ∧ Sn 30 30000 d
theorem AV.but {K : PySem.W.Frag} {a : Addr} {H H' : Hp} {x : V} (h : AV K a H x) (b : But a H H') : AV K a H' x := by
  obtain ⟨d, h1, h2⟩ := h
  exact ⟨d, Dq.same (off_but b) h1, h2⟩
theorem Anyv.av {K : PySem.W.Frag} {D a : Addr} {H : Hp} {x : V} {k n : Nat} (h : Anyv K D a H x k n) (hk : k ≤ 30) (hn : n ≤ 30000) : AV K a H x := by
  obtain ⟨d, h1, h2⟩ := h
  exact ⟨d, Dq.same off_sub h1, h2.mono hk hn⟩
theorem Anyv.b2 {K : PySem.W.Frag} {D a : Addr} {H H' : Hp} {x : V} {k n : Nat} (h : Anyv K D a H x k n) (b : B2 D a H H') : Anyv K D a H' x k n := by
  obtain ⟨d, h1, h2⟩ := h
  exact ⟨d, Dq.same b.off h1, h2⟩
/-- a value made of tuples of whole numbers alone, beside the draws' list -/
def TV (K : PySem.W.Frag) (a : Addr) (H : Hp) (b : Nat) (x : V) : Prop := ∃ d, Dq K (off a H) x d ∧ Tb d ∧ d.depth ≤ 6 ∧ d.bulk ≤ b
theorem TV.but {K : PySem.W.Frag} {a : Addr} {H H' : Hp} {b : Nat} {x : V} (h : TV K a H b x) (e : But a H H') : TV K a H' b x := by
  obtain ⟨d, h1, h2⟩ := h
  exact ⟨d, Dq.same (off_but e) h1, h2⟩
theorem TV.av {K : PySem.W.Frag} {a : Addr} {H : Hp} {b : Nat} {x : V} (h : TV K a H b x) (hb : b ≤ 30000) : AV K a H x := by
  obtain ⟨d, h1, h2, h3, h4⟩ := h
  exact ⟨d, h1, (tb_sn h2).mono (by omega) (by omega)⟩
theorem DpAll.drop {K : PySem.W.Frag} {H : Hp} : ∀ {vs : List V} {ds : List PyData} (n : Nat), DpAll K H vs ds → DpAll K H (vs.drop n) (ds.drop n)
  | _, _, 0, h => h
  | _, _, _ + 1, .nil => .nil
  | _, _, n + 1, .cons a b => DpAll.drop n b
/-! ### one cell of a grid changed -/
/-- as small as x -/
structure LeD (e x : PyData) : Prop where
  tb : Tb e
  bulk : e.bulk ≤ x.bulk
  dep : e.depth ≤ x.depth
def rep {α : Type} (ds : List α) (j : Nat) (e : α) : List α := ds.take j ++ [e] ++ ds.drop (j + 1)
theorem LeD.rep {ds : List PyData} {j : Nat} {e x : PyData} (h : Tb (.tuple ds)) (hj : ds[j]? = some x) (l : LeD e x) : LeD (.tuple (MB.rep ds j e)) (.tuple ds) := by
  have hall : ∀ d, d ∈ ds → Tb d := by
    cases h with
    | tup h => exact h
  unfold MB.rep
  have mem : ∀ d, d ∈ ds.take j ++ [e] ++ ds.drop (j + 1) → d ∈ ds ∨ d = e := fun d hd => by
    rcases List.mem_append.mp hd with hd | hd
    · rcases List.mem_append.mp hd with hd | hd
      · exact .inl (List.mem_of_mem_take hd)
      · exact .inr (List.mem_singleton.mp hd)
    · exact .inl (List.mem_of_mem_drop hd)
  refine ⟨.tup fun d hd => ?_, ?_, ?_⟩
  · rcases mem d hd with h | h
    · exact hall d h
    · rw [h]; exact l.tb
  · have := bAll_cut hj
    simp only [PyData.bulk]
    rw [bAll_app, bAll_app]
    simp only [PyData.bulkAll]
    have := l.bulk
    omega
  · simp only [PyData.depth]
    have : PyData.depthAll (ds.take j ++ [e] ++ ds.drop (j + 1)) ≤ PyData.depthAll ds := dAll_le fun d hd => by
      rcases mem d hd with h | h
      · exact dAll_mem h
      · rw [h]; exact Nat.le_trans l.dep (dAll_mem (List.mem_of_getElem? hj))
    omega
theorem dp_rep {K : PySem.W.Frag} {H : Hp} {xs : List V} {ds : List PyData} {y : V} {e : PyData} (j : Nat) (h : DpAll K H xs ds) (hy : Dp K H y e) : DpAll K H (rep xs j y) (rep ds j e) :=
  DpAll.append (DpAll.append (DpAll.take j h) (.cons hy .nil)) (DpAll.drop (j + 1) h)
theorem tb_tf {d : PyData} (h : Tb d) : Tf d := by
  induction h with
  | int _ => exact .int _
  | non => exact .non
  | tup h ih => exact .tup ih
theorem LeD.leaf {e : PyData} {o : Option Int} (h : e = .none ∨ ∃ i : Int, e = .int i ∧ i.natAbs < 10 ^ 40) : LeD e (dO o) := by
  rcases h with rfl | ⟨i, rfl, hi⟩
  · exact ⟨.non, by simp [PyData.bulk], by simp [PyData.depth]⟩
  · exact ⟨.int hi, by simp [PyData.bulk], by simp [PyData.depth]⟩
theorem grid_inv {n k c : Nat} {d : PyData} (g : Good k c n d) : ∃ ls, d = .tuple ls ∧ ls.length = k + 1 ∧ ∀ b, b ≤ k → ∃ cs, ls[b]? = some (.tuple cs) ∧ cs.length = c + 1 ∧ ∀ a, a ≤ c → cs[a]? = some (dTabO (Tc d b a) n) := by
  have h := g.grid
  unfold gridD at h
  simp only [Bool.and_eq_true, decide_eq_true_eq] at h
  obtain ⟨h1, h2, h3⟩ := h
  refine ⟨itemsD d, tup_eq h1, h2, fun b hb => ?_⟩
  obtain ⟨e, he⟩ : ∃ e, (itemsD d)[b]? = some e := ⟨_, List.getElem?_eq_getElem (by omega)⟩
  have h4 := List.all_eq_true.mp h3 e (List.mem_of_getElem? he)
  simp only [Bool.and_eq_true, decide_eq_true_eq] at h4
  refine ⟨itemsD e, by rw [he]; exact congrArg some (tup_eq h4.1), h4.2, fun a ha => ?_⟩
  obtain ⟨z, hz⟩ : ∃ z, (itemsD e)[a]? = some z := ⟨_, List.getElem?_eq_getElem (by omega)⟩
  have e1 : cellD d b a = z := by
    unfold cellD
    rw [List.getD_eq_getElem?_getD (l := itemsD d), he]
    show (itemsD e).getD a .none = z
    rw [List.getD_eq_getElem?_getD, hz]; rfl
  obtain ⟨c1, c2⟩ := g.cell b a hb ha
  rw [hz, ← e1]
  exact congrArg some (shp_tabO c1 c2)
section
variable {P : Program} {w : World} {K : PySem.W.Frag} {mg : Str → Option Value} {base : Heap}
def sp_L_shifted (K : PySem.W.Frag) : Sp := fun vs H Q _ => ∃ (a : Addr) (v : V) (by_ N : Int) (d : PyData) (n k c : Nat), vs = [.ref a, v, .int by_] ∧ Pot H a N ∧ N ≤ 800000 ∧ Dp K H v d ∧ Good k c n d ∧ Tb d ∧ n ≤ 60 ∧ k ≤ 60 ∧ c ≤ 60 ∧ by_.natAbs ≤ 10 ∧
  (∀ b a' i m x, b ≤ k → a' ≤ c → i + m ≤ n → Tc d b a' i m = some x → x.natAbs < 10 ^ 39) ∧ ∀ H' p d', But a H H' → Pot H' a (N + 10) → Dp K H' (.ref p) d' → LeD d' d → Q (.ref p) H'
theorem ok_L_shifted (TX : Tx K mg) : FnOk P w K mg base CX0 3 TX.a_L_shifted TX.fd_L_shifted ["_law_pot_here", "_law_thing", "_law_by"] (sp_L_shifted K) := by
  refine TX.f_L_shifted.ok sc_L_shifted (fun vs H Q E h => ?_) (fun cdv A outer s H vs Q E hr h => ?_)
  · obtain ⟨a, v, by_, N, d, n, k, c, rfl, _⟩ := h; rfl
  · obtain ⟨a, v, by_, N, d, n, k, c, rfl, hp, hN, hd, hG, ht, hn, hk, hc, hby, hbd, q⟩ := h
    refine ⟨_, (pss_cons (ps_par (i := 3) (j := 4) (by rfl) sc_L_shifted.nd rfl rfl (by decide) rfl rfl (pa_cons (pe_call (ok_L_take TX) (hr.mono (by decide)) (by rfl) TX.g_L_take TX.f_L_take.kp TX.bd_L_take .nil pass0 (pa_cons (pv 0) (pa_cons (pe_callB (id := "len") (k_len (K := K) rfl) (by rfl) TX.b_len (by decide +kernel) (pa_cons (pv 1) pa_nil)) pa_nil))) (pa_cons (pe_call (ok_L_take TX) (hr.mono (by decide)) (by rfl) TX.g_L_take TX.f_L_take.kp TX.bd_L_take .nil pass0 (pa_cons (pv 0) (pa_cons (pe_callB (id := "len") (k_len (K := K) rfl) (by rfl) TX.b_len (by decide +kernel) (pa_cons (pe_ix (k_ixT (K := K) rfl) (pv 1) pe_int (fun _ _ => rfl)) pa_nil)) pa_nil))) pa_nil)) (by rfl))
      (pss_cons (ps_set (i := 5) sc_L_shifted.nd rfl (.inl rfl) (pe_ix (k_ixT (K := K) rfl) (pe_ix (k_ixT (K := K) rfl) (pv 1) (pv 3) (fun _ _ => rfl)) (pv 4) (fun _ _ => rfl)))
      (pss_cons (ps_set (i := 6) sc_L_shifted.nd rfl (.inl rfl) (pe_call (ok_L_take TX) (hr.mono (by decide)) (by rfl) TX.g_L_take TX.f_L_take.kp TX.bd_L_take .nil pass0 (pa_cons (pv 0) (pa_cons (pe_callB (id := "len") (k_len (K := K) rfl) (by rfl) TX.b_len (by decide +kernel) (pa_cons (pv 5) pa_nil)) pa_nil))))
      (pss_cons (ps_set (i := 7) sc_L_shifted.nd rfl (.inl rfl) (pe_call (ok_L_take TX) (hr.mono (by decide)) (by rfl) TX.g_L_take TX.f_L_take.kp TX.bd_L_take .nil pass0 (pa_cons (pv 0) (pa_cons (pe_callB (id := "len") (k_len (K := K) rfl) (by rfl) TX.b_len (by decide +kernel) (pa_cons (pe_ix (k_ixT (K := K) rfl) (pv 5) (pv 6) (fun _ _ => rfl)) pa_nil)) pa_nil))))
      (pss_cons (ps_par (i := 8) (j := 9) (by rfl) sc_L_shifted.nd rfl rfl (by decide) rfl rfl (pa_cons (pe_ix (k_ixT (K := K) rfl) (pv 5) (pv 6) (fun _ _ => rfl)) (pa_cons (pe_call (ok_L_of TX) (hr.mono (by decide)) (by rfl) TX.g_L_of TX.f_L_of.kp TX.bd_L_of .nil pass0 (pa_cons (pv 0) (pa_cons (pe_lst (pa_cons pe_non (pa_cons pe_int pa_nil))) pa_nil))) pa_nil)) (by rfl))
      (pss_cons (ps_if (pt_cmpR op_notN (pe_ix (k_ixT (K := K) rfl) (pv 8) (pv 7) (fun _ _ => rfl)) pe_non (nomark _))
        (pss_one (ps_set (i := 9) sc_L_shifted.nd rfl (.inl rfl) (pe_op op_add (pe_ix (k_ixT (K := K) rfl) (pv 8) (pv 7) (fun _ _ => rfl)) (pv 2))))
        pss_nil)
      (pss_cons (ps_set (i := 5) sc_L_shifted.nd rfl (.inl rfl) (pe_op (k_catT (K := K) rfl) (pe_op (k_catT (K := K) rfl) (pe_slice (k_slT (K := K) rfl) (pv 5) po_none (po_some (pv 6))) (pe_tup (pa_cons (pe_op (k_catT (K := K) rfl) (pe_op (k_catT (K := K) rfl) (pe_slice (k_slT (K := K) rfl) (pv 8) po_none (po_some (pv 7))) (pe_tup (pa_cons (pv 9) pa_nil))) (pe_slice (k_slT (K := K) rfl) (pv 8) (po_some (pe_op op_add (pv 7) pe_int)) po_none)) pa_nil))) (pe_slice (k_slT (K := K) rfl) (pv 5) (po_some (pe_op op_add (pv 6) pe_int)) po_none)))
      (pss_cons (ps_set (i := 10) sc_L_shifted.nd rfl (.inl rfl) (pe_op (k_catT (K := K) rfl) (pe_op (k_catT (K := K) rfl) (pe_slice (k_slT (K := K) rfl) (pe_ix (k_ixT (K := K) rfl) (pv 1) (pv 3) (fun _ _ => rfl)) po_none (po_some (pv 4))) (pe_tup (pa_cons (pv 5) pa_nil))) (pe_slice (k_slT (K := K) rfl) (pe_ix (k_ixT (K := K) rfl) (pv 1) (pv 3) (fun _ _ => rfl)) (po_some (pe_op op_add (pv 4) pe_int)) po_none)))
      (pss_one (ps_ret (pe_op (k_catT (K := K) rfl) (pe_op (k_catT (K := K) rfl) (pe_slice (k_slT (K := K) rfl) (pv 1) po_none (po_some (pv 3))) (pe_tup (pa_cons (pv 10) pa_nil))) (pe_slice (k_slT (K := K) rfl) (pv 1) (po_some (pe_op op_add (pv 3) pe_int)) po_none)))))))))))), ?_⟩
    obtain ⟨ls, eD, hls, hline⟩ := grid_inv hG
    have tfd : Tf d := tb_tf ht
    obtain ⟨p, xs, rfl, hS, hA⟩ := Dp.tupInv (by rw [← eD]; exact hd : Dp K H v (.tuple ls))
    have hxl : xs.length = k + 1 := by rw [DpAll.len hA]; exact hls
    refine ⟨.ref a, rfl, .ref p, rfl, p, xs, rfl, .inr hS, a, _, _, rfl, hp, by omega, by omega, by omega, fun H1 r1 b1 p1 r10 r11 => ?_⟩
    obtain ⟨b, rfl⟩ : ∃ b : Nat, r1 = (b : Int) := ⟨r1.toNat, by omega⟩
    have hb : b ≤ k := by omega
    have kp1 := hp.keep (K := K) b1
    obtain ⟨cs0, hcs0, hcl0, _⟩ := hline 0 (by omega)
    obtain ⟨x0, hx0, hdx0⟩ := DpAll.get hA hcs0
    obtain ⟨q0, ys0, rfl, hS0, hA0⟩ := Dp.tupInv hdx0
    have hyl0 : ys0.length = c + 1 := by rw [DpAll.len hA0]; exact hcl0
    refine ⟨.ref a, rfl, .ref p, rfl, p, xs, 0, _, rfl, rfl, kp1 _ _ hS, atI_nat (j := 0) hx0, q0, ys0, rfl, .inr (kp1 _ _ hS0), a, _, _, rfl, p1, by omega, by omega, by omega, fun H2 r2 b2 p2 r20 r21 => ?_⟩
    obtain ⟨a', rfl⟩ : ∃ a' : Nat, r2 = (a' : Int) := ⟨r2.toNat, by omega⟩
    have ha : a' ≤ c := by omega
    have kp2 := p1.keep (K := K) b2
    refine ⟨_, _, rfl, ?_⟩
    obtain ⟨cs, hcs, hcl, hcell⟩ := hline b hb
    have hrow := hcell a' ha
    obtain ⟨xb, hxb, hdb⟩ := DpAll.get hA hcs
    obtain ⟨q1, ys, rfl, hSb, hAb⟩ := Dp.tupInv hdb
    have hyl : ys.length = c + 1 := by rw [DpAll.len hAb]; exact hcl
    obtain ⟨xc, hxc, hdc⟩ := DpAll.get hAb hrow
    obtain ⟨T, eT⟩ : ∃ T, T = Tc d b a' := ⟨_, rfl⟩
    rw [← eT] at hdc hrow
    have hbT : ∀ i m x, i + m ≤ n → T i m = some x → x.natAbs < 10 ^ 39 := fun i m x h e => hbd b a' i m x hb ha h (by rw [← eT]; exact e)
    have hdc' : Dp K H xc (.tuple ((List.range (n + 1)).map (dRowO T n))) := hdc
    obtain ⟨t, ts, rfl, hT, hTA⟩ := Dp.tupInv hdc'
    have htl : ts.length = n + 1 := by rw [DpAll.len hTA]; simp
    have k02 : Keep K H H2 := kp1.trans kp2
    refine ⟨.ref p, rfl, _, rfl, p, xs, _, .ref q1, rfl, rfl, k02 _ _ hS, atI_nat hxb, _, rfl, q1, ys, _, .ref t, rfl, rfl, k02 _ _ hSb, atI_nat hxc, ?_⟩
    refine ⟨.ref a, rfl, .ref t, rfl, t, ts, rfl, .inr (k02 _ _ hT), a, _, _, rfl, p2, by omega, by omega, by omega, fun H3 r3 b3 p3 r30 r31 => ?_⟩
    obtain ⟨i, rfl⟩ : ∃ i : Nat, r3 = (i : Int) := ⟨r3.toNat, by omega⟩
    have hi : i ≤ n := by omega
    have kp3 := p2.keep (K := K) b3
    have k03 := k02.trans kp3
    have hTi : ((List.range (n + 1)).map (dRowO T n))[i]? = some (dRowO T n i) := by rw [List.getElem?_map, List.getElem?_range (by omega)]; rfl
    obtain ⟨xr, hxr, hdr⟩ := DpAll.get hTA hTi
    have hdr' : Dp K H xr (.tuple ((rowO T n i).map dO)) := hdr
    obtain ⟨bi, zs, rfl, hR, hRA⟩ := Dp.tupInv hdr'
    have hzs := dp_ovs_inv hRA
    have hzl : zs.length = n + 1 - i := by rw [hzs, List.length_map, rowO_len]
    refine ⟨.ref a, rfl, .ref t, rfl, _, rfl, t, ts, _, .ref bi, rfl, rfl, k03 _ _ hT, atI_nat hxr, bi, zs, rfl, .inr (k03 _ _ hR), a, _, _, rfl, p3, by omega, by omega, by omega, fun H4 r4 b4 p4 r40 r41 => ?_⟩
    obtain ⟨m, rfl⟩ : ∃ m : Nat, r4 = (m : Int) := ⟨r4.toNat, by omega⟩
    have hm : i + m ≤ n := by omega
    have kp4 := p3.keep (K := K) b4
    have k04 := k03.trans kp4
    refine ⟨.ref t, rfl, _, rfl, t, ts, _, .ref bi, rfl, rfl, k04 _ _ hT, atI_nat hxr, ?_⟩
    refine ⟨.ref a, rfl, sz60 (by simp), fun l nl => ?_⟩
    have sl := same_upd (o := .lst [V.non, V.int 0]) nl
    refine ⟨a, l, _, _, rfl, p4.same sl, by omega, upd_same, p4.ne nl, by simp, by simp, fun H5 one0 b5 p5 hv => ⟨_, _, rfl, ?_⟩⟩
    have k05 : Keep K H H5 := k04.trans ((Keep.of sl).trans ((p4.same sl).keep b5))
    have hzm : zs[m]? = some (ov (T i m)) := by rw [hzs, List.getElem?_map, rowO_at hm]; rfl
    refine ⟨.ref bi, rfl, _, rfl, bi, zs, _, _, rfl, rfl, k05 _ _ hR, atI_nat hzm, rfl, _, rfl, ?_⟩
    have hleaf0 : ∃ eo, (∀ G, Dp K G one0 eo) ∧ (eo = .none ∨ ∃ i : Int, eo = .int i ∧ i.natAbs < 10 ^ 40) := by
      simp only [List.mem_cons, List.not_mem_nil, or_false] at hv
      rcases hv with rfl | rfl
      · exact ⟨.none, fun _ => .non, .inl rfl⟩
      · exact ⟨.int 0, fun _ => .int 0, .inr ⟨0, rfl, by decide +kernel⟩⟩
    obtain ⟨o, ho⟩ : ∃ o, o = T i m := ⟨_, rfl⟩
    rw [← ho] at hzm ⊢
    have b05 : But a H H5 := b1.trans (b2.trans (b3.trans (b4.trans ((But.of sl).trans b5))))
    rcases o with _ | x
    case' none =>
      refine iteB0 (by simp [ov]) ?_
      obtain ⟨eo, hone, hlf⟩ := hleaf0
      generalize one0 = one at hone ⊢
    case' some =>
      refine iteB1 (by simp [ov]) ?_
      refine ⟨.ref bi, rfl, _, rfl, bi, zs, _, _, rfl, rfl, k05 _ _ hR, atI_nat hzm, _, rfl, _, _, rfl, rfl, ?_⟩
      have hone : ∀ G, Dp K G (.int (x + by_)) (.int (x + by_)) := fun _ => .int _
      have hlf : PyData.int (x + by_) = .none ∨ ∃ i : Int, PyData.int (x + by_) = .int i ∧ i.natAbs < 10 ^ 40 := .inr ⟨_, rfl, by
        have h1 := hbT i m x hm ho.symm
        have h2 : (x + by_).natAbs ≤ x.natAbs + by_.natAbs := Int.natAbs_add_le _ _
        have h3 : (10 : Nat) ^ 39 + 10 ≤ 10 ^ 40 := by decide +kernel
        omega⟩
      dsimp only [gName]
      generalize hg1 : PyData.int (x + by_) = eo at hone hlf
      generalize hg2 : V.int (x + by_) = one at hone ⊢
    all_goals (
      have hle : LeD eo (dO (T i m)) := .leaf hlf
      have T5 := k05 _ _ hT
      have R5 := k05 _ _ hR
      have S5 := k05 _ _ hS
      have B5 := k05 _ _ hSb
      have em : ((m : Int) + 1) = ((m + 1 : Nat) : Int) := by omega
      have ei : ((i : Int) + 1) = ((i + 1 : Nat) : Int) := by omega
      have ea : ((a' : Int) + 1) = ((a' + 1 : Nat) : Int) := by omega
      have eb : ((b : Int) + 1) = ((b + 1 : Nat) : Int) := by omega
      -- the row, the table
      refine ⟨.ref t, rfl, ?_⟩
      dsimp only [tNoPart]
      refine ⟨_, rfl, _, rfl, sl_read T5 fun c1 H6 s6 hc1 => ?_⟩
      rw [cut_to (by omega)] at hc1
      refine ⟨.ref bi, rfl, ?_⟩
      dsimp only [tNoPart]
      refine ⟨_, rfl, _, rfl, sl_read (Same.tup s6 R5) fun c2 H7 s7 hc2 => ?_⟩
      rw [cut_to (by omega)] at hc2
      refine ⟨one, rfl, sz60 (by simp), fun t8 nt8 => ?_⟩
      have s8 := same_upd (o := .tup [one]) nt8
      refine cat_read (Same.tup s8 hc2) (.inl (.inl upd_same)) (by simp; omega) fun p9 H9 s9 h9 => ?_
      have s59 := s6.trans (s7.trans (s8.trans s9))
      refine ⟨.ref bi, rfl, _, rfl, _, _, rfl, rfl, _, rfl, ?_⟩
      dsimp only [tNoPart]
      refine sl_read (Same.tup s59 R5) fun c10 H10 s10 hc10 => ?_
      rw [em, cut_from (by omega)] at hc10
      refine cat_read (Same.tup s10 h9) hc10 (by simp; omega) fun p11 H11 s11 h11 => ⟨sz60 (by simp), fun t12 nt12 => ?_⟩
      have s12 := same_upd (o := .tup [V.ref p11]) nt12
      refine cat_read (Same.tup (s7.trans ((s8.trans s9).trans ((s10.trans s11).trans s12))) hc1) (.inl (.inl upd_same)) (by simp; omega) fun p13 H13 s13 h13 => ?_
      have s513 := s59.trans ((s10.trans s11).trans (s12.trans s13))
      refine ⟨.ref t, rfl, _, rfl, _, _, rfl, rfl, _, rfl, ?_⟩
      dsimp only [tNoPart]
      refine sl_read (Same.tup s513 T5) fun c14 H14 s14 hc14 => ?_
      rw [ei, cut_from (by omega)] at hc14
      refine cat_read (Same.tup s14 h13) hc14 (by simp; omega) fun p15 H15 s15 h15 => ?_
      have s1115 := (s12.trans s13).trans (s14.trans s15)
      have s515 := s513.trans (s14.trans s15)
      have h11' := Same.tup s1115 h11
      clear hc1 hc2 h9 hc10 h13 hc14 s6 s7 s8 s9 s10 s11 s12 s13 s14 s15 nt8 nt12 s59 s513 h11
      -- the line
      refine ⟨.ref p, rfl, _, rfl, p, xs, _, .ref q1, rfl, rfl, Same.tup s515 S5, atI_nat hxb, ?_⟩
      dsimp only [tNoPart]
      refine ⟨_, rfl, _, rfl, sl_read (Same.tup s515 B5) fun c1 H16 s16 hc1 => ?_⟩
      rw [cut_to (by omega)] at hc1
      refine ⟨.ref p15, rfl, sz60 (by simp), fun t17 nt17 => ?_⟩
      have s17 := same_upd (o := .tup [V.ref p15]) nt17
      refine cat_read (Same.tup s17 hc1) (.inl (.inl upd_same)) (by simp; omega) fun p18 H18 s18 h18 => ?_
      have s518 := s515.trans (s16.trans (s17.trans s18))
      refine ⟨.ref p, rfl, _, rfl, p, xs, _, .ref q1, rfl, rfl, Same.tup s518 S5, atI_nat hxb, _, rfl, _, _, rfl, rfl, _, rfl, ?_⟩
      dsimp only [tNoPart]
      refine sl_read (Same.tup s518 B5) fun c2 H19 s19 hc2 => ?_
      rw [ea, cut_from (by omega)] at hc2
      refine cat_read (Same.tup s19 h18) hc2 (by simp; omega) fun p20 H20 s20 h20 => ?_
      have s520 := s518.trans (s19.trans s20)
      have s1520 := (s16.trans (s17.trans s18)).trans (s19.trans s20)
      have h15' := Same.tup s1520 h15
      have h11'' := Same.tup s1520 h11'
      clear hc1 hc2 h18 s16 s17 s18 s19 s20 nt17 s518 h15 h11'
      -- the whole
      refine ⟨.ref p, rfl, ?_⟩
      dsimp only [tNoPart]
      refine ⟨_, rfl, _, rfl, sl_read (Same.tup s520 S5) fun c1 H21 s21 hc1 => ?_⟩
      rw [cut_to (by omega)] at hc1
      refine ⟨.ref p20, rfl, sz60 (by simp), fun t22 nt22 => ?_⟩
      have s22 := same_upd (o := .tup [V.ref p20]) nt22
      refine cat_read (Same.tup s22 hc1) (.inl (.inl upd_same)) (by simp; omega) fun p23 H23 s23 h23 => ?_
      have s523 := s520.trans (s21.trans (s22.trans s23))
      refine ⟨.ref p, rfl, _, rfl, _, _, rfl, rfl, _, rfl, ?_⟩
      dsimp only [tNoPart]
      refine sl_read (Same.tup s523 S5) fun c2 H24 s24 hc2 => ?_
      rw [eb, cut_from (by omega)] at hc2
      refine cat_read (Same.tup s24 h23) hc2 (by simp; omega) fun p25 H25 s25 h25 => ?_
      have s2025 := (s21.trans (s22.trans s23)).trans (s24.trans s25)
      have s525 := s523.trans (s24.trans s25)
      have k525 : Keep K H H25 := k05.trans (Keep.of s525)
      have tf_ : ∀ {es : List PyData}, Tb (.tuple es) → ∀ e, e ∈ es → Tf e := fun h e he => by cases h with | tup h => exact tb_tf (h e he)
      have tm : ∀ {es : List PyData} {j : Nat} {e : PyData}, Tb (.tuple es) → es[j]? = some e → Tb e := fun h he => by cases h with | tup h => exact h _ (List.mem_of_getElem? he)
      have t1 : Tb (.tuple ls) := by rw [← eD]; exact ht
      have t2 : Tb (.tuple cs) := tm t1 hcs
      have t3 : Tb (.tuple ((List.range (n + 1)).map (dRowO T n))) := tm t2 hrow
      have t4 : Tb (.tuple ((rowO T n i).map dO)) := tm t3 hTi
      have L4 : LeD (.tuple (rep ((rowO T n i).map dO) m eo)) (dRowO T n i) := LeD.rep t4 (by rw [List.getElem?_map, rowO_at hm]; rfl) hle
      have L3 : LeD (.tuple (rep ((List.range (n + 1)).map (dRowO T n)) i (.tuple (rep ((rowO T n i).map dO) m eo)))) (dTabO T n) := LeD.rep t3 hTi L4
      have L2' := LeD.rep t2 hrow L3
      have L1 := LeD.rep t1 hcs L2'
      refine q H25 p25 _ (b05.trans (But.of s525)) ((p5.same s525).mono (by omega)) ?_ (by rw [eD]; exact L1)
      exact .tup h25 (dp_rep b (DpAll.keep k525 (tf_ t1) hA) (.tup (Same.tup s2025 h20) (dp_rep a' (DpAll.keep k525 (tf_ t2) hAb) (.tup (Same.tup s2025 h15') (dp_rep i (DpAll.keep k525 (tf_ t3) hTA) (.tup (Same.tup s2025 h11'') (dp_rep m (DpAll.keep k525 (tf_ t4) hRA) (hone _))))))))
    )
end
/-! ### the program's own grid -/
theorem shpR_of {n : Nat} : ∀ {ds : List PyData} {i : Nat}, (∀ j e, ds[j]? = some e → isTup e = true ∧ (itemsD e).length + (i + j) = n + 1) → shpR n i ds = true
  | [], _, _ => rfl
  | e :: ds, i, h => by
    obtain ⟨h1, h2⟩ := h 0 e rfl
    have h3 := shpR_of (n := n) (ds := ds) (i := i + 1) fun j x hx => by
      obtain ⟨g1, g2⟩ := h (j + 1) x hx
      exact ⟨g1, by omega⟩
    simp only [shpR, h1, h3, Bool.true_and, Bool.and_true]
    exact decide_eq_true (by omega)
theorem rows_at {T : Nat → Nat → Option Int} {n j : Nat} {e : PyData} (h : ((List.range (n + 1)).map (dRowO T n))[j]? = some e) : j ≤ n ∧ e = dRowO T n j := by
  rw [List.getElem?_map] at h
  by_cases hj : j < n + 1
  · rw [List.getElem?_range hj] at h
    cases h
    exact ⟨by omega, rfl⟩
  · rw [List.getElem?_eq_none (by simp; omega)] at h; cases h
theorem shp_dTabO (T : Nat → Nat → Option Int) (n : Nat) : shpD n (dTabO T n) = true := by
  unfold shpD
  show (true && (decide (((List.range (n + 1)).map (dRowO T n)).length = n + 1) && shpR n 0 ((List.range (n + 1)).map (dRowO T n)))) = true
  rw [shpR_of fun j e he => by
    obtain ⟨hj, rfl⟩ := rows_at he
    refine ⟨rfl, ?_⟩
    show ((rowO T n j).map dO).length + (0 + j) = n + 1
    rw [List.length_map, rowO_len]; omega]
  simp
theorem bnds_dTabO (T : Nat → Nat → Option Int) (n : Nat) : bndsD (dTabO T n) = true := by
  unfold bndsD
  show ((List.range (n + 1)).map (dRowO T n)).all _ = true
  rw [List.all_eq_true]
  intro e he
  obtain ⟨i, _, rfl⟩ := List.mem_map.mp he
  show ((rowO T n i).map dO).all isBndD = true
  rw [List.all_eq_true]
  intro x hx
  obtain ⟨o, _, rfl⟩ := List.mem_map.mp hx
  cases o <;> rfl
theorem tabO_dTabO {T : Nat → Nat → Option Int} {n i m : Nat} (h : i + m ≤ n) : tabO (dTabO T n) i m = T i m := by
  unfold tabO
  show numO ((itemsD (((List.range (n + 1)).map (dRowO T n)).getD i .none)).getD m .none) = _
  have e1 : ((List.range (n + 1)).map (dRowO T n)).getD i .none = dRowO T n i := by
    rw [List.getD_eq_getElem?_getD, List.getElem?_map, List.getElem?_range (by omega)]; rfl
  rw [e1]
  show numO (((rowO T n i).map dO).getD m .none) = _
  rw [List.getD_eq_getElem?_getD, List.getElem?_map, rowO_at h]
  show numO (dO (T i m)) = _
  cases T i m <;> rfl
theorem cell_grid {S R : Nat → Int} {n k c b a : Nat} (hb : b ≤ k) (ha : a ≤ c) : cellD (dGrid S R n k c) b a = dTabO (lwb S R b a) n := by
  unfold cellD
  show (itemsD (((List.range (k + 1)).map (dRowG S R n (c + 1))).getD b .none)).getD a .none = _
  have e1 : ((List.range (k + 1)).map (dRowG S R n (c + 1))).getD b .none = dRowG S R n (c + 1) b := by
    rw [List.getD_eq_getElem?_getD, List.getElem?_map, List.getElem?_range (by omega)]; rfl
  rw [e1]
  show (((List.range (c + 1)).map fun a => dTabO (lwb S R b a) n)).getD a .none = _
  rw [List.getD_eq_getElem?_getD, List.getElem?_map, List.getElem?_range (by omega)]; rfl
theorem good_grid (S R : Nat → Int) (n k c : Nat) : Good k c n (dGrid S R n k c) := by
  refine ⟨?_, fun b a hb ha => by rw [cell_grid hb ha]; exact ⟨shp_dTabO _ _, bnds_dTabO _ _⟩⟩
  unfold gridD
  show (true && (decide (((List.range (k + 1)).map (dRowG S R n (c + 1))).length = k + 1) && ((List.range (k + 1)).map (dRowG S R n (c + 1))).all _)) = true
  have : (((List.range (k + 1)).map (dRowG S R n (c + 1))).all fun r => isTup r && decide ((itemsD r).length = c + 1)) = true := by
    rw [List.all_eq_true]
    intro e he
    obtain ⟨b, _, rfl⟩ := List.mem_map.mp he
    show (true && decide (((List.range (c + 1)).map fun a => dTabO (lwb S R b a) n).length = c + 1)) = true
    simp
  rw [this]
  simp
theorem leaf_bulk (o : Option Int) : (dO o).bulk = 0 ∧ (dO o).depth = 0 := by
  cases o
  · exact ⟨by simp [dO, PyData.bulk], by simp [dO, PyData.depth]⟩
  · exact ⟨by simp [dO, PyData.bulk], by simp [dO, PyData.depth]⟩
theorem bAll_leC {c : Nat} : ∀ {ds : List PyData}, (∀ d, d ∈ ds → d.bulk ≤ c) → PyData.bulkAll ds ≤ (c + 1) * ds.length
  | [], _ => by simp [PyData.bulkAll]
  | e :: ds, h => by
    have h1 := h e (List.mem_cons_self ..)
    have h2 := bAll_leC (ds := ds) fun d hd => h d (List.mem_cons_of_mem _ hd)
    simp only [PyData.bulkAll, List.length_cons, Nat.mul_add, Nat.mul_one]
    omega
theorem rowO_small (T : Nat → Nat → Option Int) (n i : Nat) : (dRowO T n i).bulk ≤ n + 1 ∧ (dRowO T n i).depth ≤ 1 := by
  unfold dRowO
  simp only [PyData.bulk, PyData.depth]
  have h1 := bAll_leC (c := 0) (ds := (rowO T n i).map dO) fun d hd => by
    obtain ⟨o, _, rfl⟩ := List.mem_map.mp hd
    rw [(leaf_bulk o).1]; omega
  have h2 := dAll_le (k := 0) (ds := (rowO T n i).map dO) fun d hd => by
    obtain ⟨o, _, rfl⟩ := List.mem_map.mp hd
    rw [(leaf_bulk o).2]; omega
  rw [List.length_map, rowO_len] at h1
  omega
theorem tabO_small (T : Nat → Nat → Option Int) (n : Nat) : (dTabO T n).bulk ≤ (n + 2) * (n + 1) ∧ (dTabO T n).depth ≤ 2 := by
  unfold dTabO
  simp only [PyData.bulk, PyData.depth]
  have h1 := bAll_leC (c := n + 1) (ds := (List.range (n + 1)).map (dRowO T n)) fun d hd => by
    obtain ⟨i, _, rfl⟩ := List.mem_map.mp hd
    exact (rowO_small T n i).1
  have h2 := dAll_le (k := 1) (ds := (List.range (n + 1)).map (dRowO T n)) fun d hd => by
    obtain ⟨i, _, rfl⟩ := List.mem_map.mp hd
    exact (rowO_small T n i).2
  rw [List.length_map, List.length_range] at h1
  exact ⟨h1, by omega⟩
theorem grid_small {S R : Nat → Int} {n k c : Nat} (hn : n ≤ 4) (hk : k ≤ 3) (hc : c ≤ 3) : (dGrid S R n k c).bulk ≤ 600 ∧ (dGrid S R n k c).depth ≤ 6 := by
  have t1 : ∀ T : Nat → Nat → Option Int, (dTabO T n).bulk ≤ 30 := fun T => by
    have h1 := (tabO_small T n).1
    have : (n + 2) * (n + 1) ≤ 6 * 5 := Nat.mul_le_mul (by omega) (by omega)
    omega
  have r1 : ∀ b, (dRowG S R n (c + 1) b).bulk ≤ 124 ∧ (dRowG S R n (c + 1) b).depth ≤ 3 := fun b => by
    unfold dRowG
    simp only [PyData.bulk, PyData.depth]
    have h1 := bAll_leC (c := 30) (ds := (List.range (c + 1)).map fun a => dTabO (lwb S R b a) n) fun d hd => by
      obtain ⟨i, _, rfl⟩ := List.mem_map.mp hd
      exact t1 _
    have h2 := dAll_le (k := 2) (ds := (List.range (c + 1)).map fun a => dTabO (lwb S R b a) n) fun d hd => by
      obtain ⟨i, _, rfl⟩ := List.mem_map.mp hd
      exact (tabO_small _ n).2
    rw [List.length_map, List.length_range] at h1
    omega
  unfold dGrid
  simp only [PyData.bulk, PyData.depth]
  have h1 := bAll_leC (c := 124) (ds := (List.range (k + 1)).map (dRowG S R n (c + 1))) fun d hd => by
    obtain ⟨i, _, rfl⟩ := List.mem_map.mp hd
    exact (r1 i).1
  have h2 := dAll_le (k := 3) (ds := (List.range (k + 1)).map (dRowG S R n (c + 1))) fun d hd => by
    obtain ⟨i, _, rfl⟩ := List.mem_map.mp hd
    exact (r1 i).2
  rw [List.length_map, List.length_range] at h1
  omega
theorem tb_grid {S R : Nat → Int} {n k c : Nat} (h : ∀ b a i m x, b ≤ k → a ≤ c → i + m ≤ n → lwb S R b a i m = some x → x.natAbs < 10 ^ 39) : Tb (dGrid S R n k c) := by
  refine .tup fun r hr => ?_
  obtain ⟨b, hb, rfl⟩ := List.mem_map.mp hr
  refine .tup fun t ht => ?_
  obtain ⟨a, ha, rfl⟩ := List.mem_map.mp ht
  refine .tup fun w hw => ?_
  obtain ⟨i, hi, rfl⟩ := List.mem_map.mp hw
  refine .tup fun e he => ?_
  obtain ⟨o, ho, rfl⟩ := List.mem_map.mp he
  unfold rowO at ho
  obtain ⟨m, hm, rfl⟩ := List.mem_map.mp ho
  have := List.mem_range.mp hb
  have := List.mem_range.mp ha
  have := List.mem_range.mp hi
  have := List.mem_range.mp hm
  cases e : lwb S R b a i m with
  | none => exact .non
  | some x => exact .int (Nat.lt_trans (h b a i m x (by omega) (by omega) (by omega) e) (by decide +kernel))
theorem lds_of {ns : List Int} {wd b : Int} (h : ∀ x, x ∈ ns → 0 ≤ x ∧ (x ≤ wd ∨ x ≤ 3)) (h1 : wd ≤ 1000000000) : Lds ns := fun x hx => by
  have := h x hx
  omega
theorem lw_up {S R : Nat → Int} (hS : Mono S) (hR : Mono R) : ∀ m i, lw S R i m ≤ (m : Int) * (S (i + m) - S i + (R (i + m) - R i))
  | 0, i => by rw [lw_zero]; simp
  | m + 1, i => by
    have h1 := lw_le S R i (show 0 ≤ m by omega)
    have h2 := lw_up hS hR m (i + 1)
    unfold via cst at h1
    simp only [lw_zero, Nat.sub_zero, Nat.add_zero] at h1
    rw [show i + 1 + m = i + (m + 1) by omega] at h2
    have a1 := hS i (i + 1) (by omega)
    have a2 := hR i (i + 1) (by omega)
    have a3 := hS (i + 1) (i + (m + 1)) (by omega)
    have h3 : (m : Int) * (S (i + (m + 1)) - S (i + 1) + (R (i + (m + 1)) - R (i + 1))) ≤ (m : Int) * (S (i + (m + 1)) - S i + (R (i + (m + 1)) - R i)) := Int.mul_le_mul_of_nonneg_left (by omega) (by omega)
    rw [Int.natCast_add, Int.add_mul]
    simp only [Int.natCast_one, Int.one_mul]
    omega
theorem sm_le {l : List Int} (h : Lds l) : ∀ j, sm l j ≤ (j : Int) * 1000000000
  | 0 => by simp [sm]
  | j + 1 => by
    have ih := sm_le h j
    cases hx : l[j]? with
    | none =>
      have : sm l (j + 1) = sm l j := by
        unfold sm
        rw [List.take_add_one, hx]
        simp
      omega
    | some x =>
      have := (h x (List.mem_of_getElem? hx)).2
      rw [sm_succ hx]
      omega
theorem lds_mono {l : List Int} (h : Lds l) : Mono (sm l) := sm_mono fun x hx => (h x hx).1
theorem lw_bdI {ss rs : List Int} (hs : Lds ss) (hr : Lds rs) {i k : Nat} (hk : i + k ≤ 60) : 0 ≤ lw (sm ss) (sm rs) i k ∧ lw (sm ss) (sm rs) i k ≤ 7200000000000 := by
  refine ⟨lw_nonneg (lds_mono hs) (lds_mono hr) _ _, ?_⟩
  have h1 := lw_up (lds_mono hs) (lds_mono hr) k i
  have h2 := sm_le hs (i + k)
  have h3 := sm_le hr (i + k)
  have h5 := lds_mono hs 0 i (by omega)
  have h6 := lds_mono hr 0 i (by omega)
  rw [sm_zero] at h5 h6
  have h4 : (k : Int) * (sm ss (i + k) - sm ss i + (sm rs (i + k) - sm rs i)) ≤ (k : Int) * 120000000000 := Int.mul_le_mul_of_nonneg_left (by omega) (by omega)
  omega
theorem Sn.mem {k n : Nat} {ds : List PyData} (h : Sn k n (.tuple ds)) {d : PyData} (hd : d ∈ ds) : Sn k n d := by
  obtain ⟨a, b, c, e⟩ := h
  simp only [PyData.depth, PyData.showable, PyData.leavesShort, PyData.bulk] at a b c e
  have key : ∀ ds : List PyData, d ∈ ds → PyData.showableAll ds = true → PyData.leavesShortAll 60 ds = true → d.showable = true ∧ d.leavesShort 60 = true ∧ d.bulk ≤ PyData.bulkAll ds ∧ d.depth ≤ PyData.depthAll ds := fun ds => by
    induction ds with
    | nil => intro h; cases h
    | cons x xs ih =>
      intro h h1 h2
      simp only [PyData.showableAll, PyData.leavesShortAll, Bool.and_eq_true] at h1 h2
      simp only [PyData.bulkAll, PyData.depthAll]
      rcases List.mem_cons.mp h with rfl | h
      · exact ⟨h1.1, h2.1, by omega, by omega⟩
      · obtain ⟨q1, q2, q3, q4⟩ := ih h h1.2 h2.2
        exact ⟨q1, q2, by omega, by omega⟩
  obtain ⟨q1, q2, q3, q4⟩ := key ds hd b c
  exact ⟨by omega, q1, q2, by omega⟩
theorem Sn.intB {k n : Nat} {i : Int} (h : i.natAbs < 10 ^ 59) : Sn k n (.int i) := by
  refine ⟨by simp [PyData.depth], ?_, ?_, by simp [PyData.bulk]⟩
  · simp only [PyData.showable]
    refine decide_eq_true ?_
    by_cases h0 : i.natAbs = 0
    · rw [h0]; decide
    · exact Nat.lt_trans ((Nat.log2_lt h0).mpr (show i.natAbs < 2 ^ 200 from Nat.lt_trans h (by decide +kernel))) (by decide)
  · simp only [PyData.leavesShort]
    refine decide_eq_true ?_
    have e := int_text_length_le10 (a := i) (k := 59) (by decide) h
    have e2 : (PyData.shown (.int i)).length = (toString i).length := by
      simp only [PyData.shown]
      exact PySem.ofString_length _
    omega
theorem Sn.neg {k n : Nat} {i : Int} (h : Sn k n (.int i)) (hi : i < 0) : i.natAbs < 10 ^ 59 := by
  have h1 := h.short
  simp only [PyData.leavesShort] at h1
  have h1 := of_decide_eq_true h1
  have e2 : (PyData.shown (.int i)).length = (toString i).length := by
    simp only [PyData.shown]
    exact PySem.ofString_length _
  rw [e2] at h1
  cases i with
  | ofNat m => exact absurd hi (by simp)
  | negSucc m =>
    have e : toString (Int.negSucc m) = "-" ++ Nat.repr (m + 1) := rfl
    rw [e, String.length_append] at h1
    have e1 : "-".length = 1 := rfl
    exact (Nat.length_repr_le_iff (n := m + 1) (k := 59) (by decide)).mp (by omega)
/-- a bound of the works within budgets -/
theorem cst_bd {ss rs : List Int} (hs : Lds ss) (hr : Lds rs) {i m k : Nat} (h1 : i + m ≤ 60) (hk : k < m) : 0 ≤ cst (sm ss) (sm rs) i m k ∧ cst (sm ss) (sm rs) i m k ≤ 120000000000 := by
  have a1 := lds_mono hs i (i + k + 1) (by omega)
  have a2 := lds_mono hr (i + k) (i + m) (by omega)
  have a3 := sm_le hs (i + k + 1)
  have a4 := sm_le hr (i + m)
  have a5 := lds_mono hs 0 i (by omega)
  have a6 := lds_mono hr 0 (i + k) (by omega)
  rw [sm_zero] at a5 a6
  unfold cst
  omega
theorem lwb_bd {ss rs : List Int} (hs : Lds ss) (hr : Lds rs) : ∀ (n b a i m : Nat) (x : Int), b + a ≤ n → i + m ≤ 60 → lwb (sm ss) (sm rs) b a i m = some x → 0 ≤ x ∧ x ≤ (m : Int) * 120000000000
  | n, b, a, i, 0, x, _, _, h => by rw [lwb_zero] at h; cases h; simp
  | n, 0, a, i, m + 1, x, _, _, h => by rw [lwb_b0] at h; cases h
  | n, b + 1, 0, i, m + 1, x, _, _, h => by rw [lwb_a0] at h; cases h
  | 0, b + 1, a + 1, i, m + 1, x, hn, _, _ => absurd hn (by omega)
  | n + 1, b + 1, a + 1, i, m + 1, x, hn, hi, h => by
    rw [lwb_succ, Option.map_eq_some_iff] at h
    obtain ⟨p, hp, rfl⟩ := h
    obtain ⟨y, z, h1, h2, h3, h4⟩ := bst_some hp
    have g1 := lwb_bd hs hr n _ _ _ _ _ (by omega) (by omega) h2
    have g2 := lwb_bd hs hr n _ _ _ _ _ (by omega) (by omega) h3
    have g3 := cst_bd hs hr (i := i) (m := m + 1) (k := rtb (sm ss) (sm rs) b a i m) (by omega) (by omega)
    rw [h4]
    show 0 ≤ y + z + _ ∧ y + z + _ ≤ _
    generalize rtb (sm ss) (sm rs) b a i m = rt at *
    have e : ((m + 1 : Nat) : Int) * 120000000000 = (rt : Int) * 120000000000 + ((m - rt : Nat) : Int) * 120000000000 + 120000000000 := by
      have : ((m + 1 : Nat) : Int) = (rt : Int) + ((m - rt : Nat) : Int) + 1 := by omega
      rw [this, Int.add_mul, Int.add_mul]; omega
    omega
section
variable {P : Program} {w : World} {K : PySem.W.Frag} {mg : Str → Option Value} {base : Heap}
def sp_L_right (K : PySem.W.Frag) : Sp := fun vs H Q _ => ∃ (a : Addr) (o : HO), vs = [.ref a] ∧ Pot H a 0 ∧ H sysModules = some o ∧ a ≠ sysModules ∧ ∀ H', But a H H' → Q (.bl true) H'
set_option maxHeartbeats 8000000 in
theorem ok_L_right (TX : Tx K mg) : FnG P w K mg base CX0 65 TX.a_L_right TX.fd_L_right ["_law_pot_here"] (sp_L_right K) := by
  refine Fun.okG TX.f_L_right sc_L_right (fun vs H Q E h => ?_) (fun cdv A hgd outer s H vs Q E hr h => ?_)
  · obtain ⟨a, o, rfl, _⟩ := h; rfl
  · obtain ⟨a, o, rfl, hp, hsys, nas, q⟩ := h
    refine ⟨_, (pss_cons (ps_par (i := 1) (j := 2) (by rfl) sc_L_right.nd rfl rfl (by decide) rfl rfl (pa_cons (pe_call (ok_L_take TX) (hr.mono (by decide)) (by rfl) TX.g_L_take TX.f_L_take.kp TX.bd_L_take .nil pass0 (pa_cons (pv 0) (pa_cons pe_int pa_nil))) (pa_cons (pe_call (ok_L_of TX) (hr.mono (by decide)) (by rfl) TX.g_L_of TX.f_L_of.kp TX.bd_L_of .nil pass0 (pa_cons (pv 0) (pa_cons (pe_lst (pa_cons pe_int (pa_cons pe_int (pa_cons (pe_op op_powW pe_int pe_int) pa_nil)))) pa_nil))) pa_nil)) (by rfl))
      (pss_cons (ps_par (i := 3) (j := 4) (by rfl) sc_L_right.nd rfl rfl (by decide) rfl rfl (pa_cons (pe_call (ok_L_load TX) (hr.mono (by decide)) (by rfl) TX.g_L_load TX.f_L_load.kp TX.bd_L_load .nil pass0 (pa_cons (pv 0) (pa_cons (pv 1) (pa_cons (pv 2) pa_nil)))) (pa_cons (pe_call (ok_L_load TX) (hr.mono (by decide)) (by rfl) TX.g_L_load TX.f_L_load.kp TX.bd_L_load .nil pass0 (pa_cons (pv 0) (pa_cons (pv 1) (pa_cons (pv 2) pa_nil)))) pa_nil)) (by rfl))
      (pss_cons (ps_par (i := 5) (j := 6) (by rfl) sc_L_right.nd rfl rfl (by decide) rfl rfl (pa_cons (pe_call (ok_L_take TX) (hr.mono (by decide)) (by rfl) TX.g_L_take TX.f_L_take.kp TX.bd_L_take .nil pass0 (pa_cons (pv 0) (pa_cons pe_int pa_nil))) (pa_cons (pe_call (ok_L_take TX) (hr.mono (by decide)) (by rfl) TX.g_L_take TX.f_L_take.kp TX.bd_L_take .nil pass0 (pa_cons (pv 0) (pa_cons pe_int pa_nil))) pa_nil)) (by rfl))
      (pss_cons (ps_set (i := 7) sc_L_right.nd rfl (.inr rfl) (pe_lst (pa_cons (pe_call (ok_table_within TX) (hr.mono (by decide)) (by rfl) TX.g_table_within TX.f_table_within.kp TX.bd_table_within .nil pass0 (pa_cons (pv 3) (pa_cons (pv 4) (pa_cons (pv 5) (pa_cons (pv 6) pa_nil))))) pa_nil)))
      (pss_cons (ps_set (i := 7) sc_L_right.nd rfl (.inr rfl) (pe_op op_cat (pv 7) (pe_lc (own := [("_law_by", 15)]) (by rfl) sc_L_right.nd (k_piT (K := K) rfl (pe_tup (pa_cons pe_int (pa_cons (pe_un un_neg pe_int) (pa_cons (pe_un un_neg pe_int) (pa_cons pe_int pa_nil)))))) (blkOk_by (own := [("_law_by", 15)]) (N := N_L_right) (sc := defScope s_L_right) (by decide +kernel)) (fun _ _ _ _ _ => (pg_name (i := 15) sc_L_right.nd rfl (Or.inl rfl))) (fun _ _ _ _ _ => pts_nil) (fun _ _ _ _ _ => (pe_call (ok_L_shifted TX) (hr.mono (by decide)) (by rfl) TX.g_L_shifted TX.f_L_shifted.kp TX.bd_L_shifted .nil pass0 (pa_cons (pv 0) (pa_cons (pe_ix (k_ixL (K := K) rfl) (pv 7) pe_int (fun _ _ => rfl)) (pa_cons (pv 15) pa_nil))))))))
      (pss_cons (ps_set (i := 7) sc_L_right.nd rfl (.inr rfl) (pe_op op_cat (pv 7) (pe_lc (own := [("_law_turn", 16)]) (by rfl) sc_L_right.nd (pi_range1 (by rfl) TX.b_range (pa_cons pe_int pa_nil)) (blkOk_by (own := [("_law_turn", 16)]) (N := N_L_right) (sc := defScope s_L_right) (by decide +kernel)) (fun _ _ _ _ _ => (pg_name (i := 16) sc_L_right.nd rfl (Or.inl rfl))) (fun _ _ _ _ _ => pts_nil) (fun _ _ _ _ _ => (pe_call (ok_L_bent TX) (hr.mono (by decide)) (by rfl) TX.g_L_bent TX.f_L_bent.kp TX.bd_L_bent .nil pass0 (pa_cons (pv 0) (pa_cons (pe_call (ok_L_of TX) (hr.mono (by decide)) (by rfl) TX.g_L_of TX.f_L_of.kp TX.bd_L_of .nil pass0 (pa_cons (pv 0) (pa_cons (pv 7) pa_nil))) pa_nil)))))))
      (pss_cons (ps_for PassesOwn.never rfl (k_piL (K := K) rfl (pe_op op_cat (pv 7) (pe_lst (pa_cons (pe_call (ok_L_odd TX) (hr.mono (by decide)) (by rfl) TX.g_L_odd TX.f_L_odd.kp TX.bd_L_odd .nil pass0 (pa_cons (pv 0) pa_nil)) (pa_cons pe_non (pa_cons (pe_tup pa_nil) (pa_cons (pe_tup (pa_cons (pe_tup pa_nil) pa_nil)) (pa_cons (pe_tup (pa_cons (pe_tup (pa_cons (pe_tup pa_nil) pa_nil)) pa_nil)) pa_nil)))))))) (pg_name (i := 8) sc_L_right.nd rfl (.inl rfl))
        (pss_cons (ps_set (i := 9) sc_L_right.nd rfl (.inl rfl) (pe_call (ok_L_certifies TX) (hr.mono (by decide)) (by rfl) TX.g_L_certifies TX.f_L_certifies.kp TX.bd_L_certifies .nil pass0 (pa_cons (pv 3) (pa_cons (pv 4) (pa_cons (pv 5) (pa_cons (pv 6) (pa_cons (pv 8) pa_nil)))))))
        (pss_cons (ps_set (i := 10) sc_L_right.nd rfl (.inl rfl) (pe_ifExp (pt_val (pv 9)) (pe_ix (k_ixT (K := K) rfl) (pe_ix (k_ixT (K := K) rfl) (pe_ix (k_ixT (K := K) rfl) (pe_ix (k_ixT (K := K) rfl) (pv 8) (pv 5) (fun _ _ => rfl)) (pv 6) (fun _ _ => rfl)) pe_int (fun _ _ => rfl)) (pv 1) (fun _ _ => rfl)) (pe_call (ok_L_take TX) (hr.mono (by decide)) (by rfl) TX.g_L_take TX.f_L_take.kp TX.bd_L_take .nil pass0 (pa_cons (pv 0) (pa_cons pe_int pa_nil)))))
        (pss_one (ps_for PassesOwn.never rfl (k_piT (K := K) rfl (pe_tup (pa_cons (pv 10) (pa_cons pe_int (pa_cons pe_non (pa_cons (pe_call (ok_L_odd TX) (hr.mono (by decide)) (by rfl) TX.g_L_odd TX.f_L_odd.kp TX.bd_L_odd .nil pass0 (pa_cons (pv 0) pa_nil)) pa_nil)))))) (pg_name (i := 11) sc_L_right.nd rfl (.inl rfl))
          (pss_cons (ps_set (i := 12) sc_L_right.nd rfl (.inl rfl) (pe_callB (id := "repr") (k_reprQ (K := K) rfl hgd hr.units) (by rfl) TX.b_repr (by decide +kernel) (pa_cons (pe_tup (pa_cons (pv 8) (pa_cons (pv 11) pa_nil))) pa_nil)))
          (pss_cons (ps_set (i := 13) sc_L_right.nd rfl (.inl rfl) (pe_and (pv 9) (pe_and (pe_or (pe_cmpR op_isN (pv 11) pe_non (nomark _)) (pe_one (pe_call (ok_L_is_int TX) (hr.mono (by decide)) (by rfl) TX.g_L_is_int TX.f_L_is_int.kp TX.bd_L_is_int .nil pass0 (pa_cons (pv 11) pa_nil)))) (pe_one (pe_cmpR op_eq (pv 11) (pv 10) (nomark _))))))
          (pss_cons (ps_set (i := 14) sc_L_right.nd rfl (.inl rfl) (pe_call (ok_shows_bound_within TX) (hr.mono (by decide)) (by rfl) TX.g_shows_bound_within TX.f_shows_bound_within.kp TX.bd_shows_bound_within .nil pass0 (pa_cons (pv 3) (pa_cons (pv 4) (pa_cons (pv 5) (pa_cons (pv 6) (pa_cons (pv 11) (pa_cons (pv 8) pa_nil))))))))
          (pss_one (ps_if (PW.pt (pw_or (pt_cmpR op_ne (pe_callB (id := "repr") (k_reprQ (K := K) rfl hgd hr.units) (by rfl) TX.b_repr (by decide +kernel) (pa_cons (pv 14) pa_nil)) (pe_callB (id := "repr") (k_reprQ (K := K) rfl hgd hr.units) (by rfl) TX.b_repr (by decide +kernel) (pa_cons (pv 13) pa_nil)) (nomark _)) (pw_or1 (pt_cmpR op_ne (pe_callB (id := "repr") (k_reprQ (K := K) rfl hgd hr.units) (by rfl) TX.b_repr (by decide +kernel) (pa_cons (pe_tup (pa_cons (pv 8) (pa_cons (pv 11) pa_nil))) pa_nil)) (pv 12) (nomark _)))))
            (pss_one (ps_ret pe_bl))
            pss_nil))))))))))
      (pss_one (ps_ret pe_bl))))))))), ?_⟩
    refine ⟨.ref a, rfl, a, 5, _, rfl, hp, by decide, by decide, by decide, fun H1 r1 b1 p1 r10 r11 => ?_⟩
    refine ⟨.ref a, rfl, _, _, rfl, rfl, ⟨by decide, by decide +kernel⟩, sz60 (by simp), fun l nl => ?_⟩
    have s2 := same_upd (o := .lst [V.int 1, V.int 4, V.int (10 ^ (9 : Int).toNat)]) nl
    refine ⟨a, l, _, _, rfl, p1.same s2, by decide, upd_same, p1.ne nl, by simp, by simp, fun H3 v b3 p3 hv => ?_⟩
    obtain ⟨wd, rfl, hw1, hw2⟩ : ∃ x : Int, v = .int x ∧ 1 ≤ x ∧ x ≤ 1000000000 := by
      simp only [List.mem_cons, List.not_mem_nil, or_false] at hv
      rcases hv with rfl | rfl | rfl
      · exact ⟨1, rfl, by decide, by decide⟩
      · exact ⟨4, rfl, by decide, by decide⟩
      · exact ⟨_, rfl, by decide, by decide⟩
    have b03 : But a H H3 := (b1.trans (But.of s2)).trans b3
    obtain ⟨n, rfl⟩ : ∃ k : Nat, r1 = (k : Int) := ⟨r1.toNat, by omega⟩
    have hn : n ≤ 4 := by omega
    refine ⟨_, _, rfl, ?_⟩
    refine ⟨.ref a, rfl, _, rfl, _, rfl, a, n, wd, _, rfl, p3, by decide, by omega, hw1, by omega, fun H4 u1 ss b4 p4 l1 c1 h1 => ?_⟩
    refine ⟨.ref a, rfl, _, rfl, _, rfl, a, n, wd, _, rfl, p4, by decide, by omega, hw1, by omega, fun H5 u2 rs b5 p5 l2 c2 h2 => ?_⟩
    refine ⟨_, _, rfl, ?_⟩
    have k1 := (p4.keep (K := K) b5) _ _ h1
    have dS : Lds ss := lds_of (b := 0) c1 (by omega)
    have dR : Lds rs := lds_of (b := 0) c2 (by omega)
    have b05 := (b03.trans b4).trans b5
    refine ⟨.ref a, rfl, a, 4, _, rfl, p5, by omega, by decide, by decide, fun H6 r6 b6 p6 r60 r61 => ⟨.ref a, rfl, a, 4, _, rfl, p6, by omega, by decide, by decide, fun H7 r7 b7 p7 r70 r71 => ⟨_, _, rfl, ?_⟩⟩⟩
    obtain ⟨k, rfl⟩ : ∃ k : Nat, r6 = (k : Int) := ⟨r6.toNat, by omega⟩
    obtain ⟨c, rfl⟩ : ∃ k : Nat, r7 = (k : Int) := ⟨r7.toNat, by omega⟩
    have hk : k ≤ 3 := by omega
    have hc : c ≤ 3 := by omega
    have b67 := b6.trans b7
    have K1 := p5.keep (K := K) b67 _ _ k1
    have K2 := p5.keep (K := K) b67 _ _ h2
    have b07 := b05.trans b67
    clear h1 p1 p3 p4 b1 b3 s2 hv c1 c2 b03 b4 b5 k1 h2 p5 p6 b6 b7 b67 b05
    have hbd : ∀ b a i m x, b ≤ k → a ≤ c → i + m ≤ n → lwb (sm ss) (sm rs) b a i m = some x → x.natAbs < 10 ^ 39 := fun b a i m x hb ha him e => by
      obtain ⟨e1, e2⟩ := lwb_bd dS dR (b + a) b a i m x (Nat.le_refl _) (by omega) e
      have e3 : (10 : Nat) ^ 20 < 10 ^ 39 := by decide +kernel
      have e4 : x ≤ 100000000000000000000 := by omega
      omega
    -- the table
    refine ⟨.ref u1, rfl, .ref u2, rfl, _, rfl, _, rfl, u1, u2, ss, rs, k, c, rfl, K1, K2, dS, dR, by omega, by omega, by omega, by omega, fun H8 t1 s8 hT1 => ⟨sz60 (by simp), fun l3 nl3 => ?_⟩⟩
    rw [l1] at hT1
    have ht := tb_grid hbd
    have hG := good_grid (sm ss) (sm rs) n k c
    obtain ⟨sb, sd⟩ := grid_small (S := sm ss) (R := sm rs) hn hk hc
    have hbd2 : ∀ b a' i m x, b ≤ k → a' ≤ c → i + m ≤ n → Tc (dGrid (sm ss) (sm rs) n k c) b a' i m = some x → x.natAbs < 10 ^ 39 := fun b a' i m x hb ha him e => by
      unfold Tc at e
      rw [cell_grid hb ha, tabO_dTabO him] at e
      exact hbd b a' i m x hb ha him e
    have p8 := p7.same s8
    have nl3a0 : l3 ≠ a := p8.ne nl3
    have s9 := same_upd (o := .lst [V.ref t1]) nl3
    have hl3 := upd_same (H := H8) (a := l3) (o := .lst [V.ref t1])
    have hT9 := Dp.same s9 hT1
    have p9 := p8.same s9
    have K1 := Same.tup (s8.trans s9) K1
    have K2 := Same.tup (s8.trans s9) K2
    have b09 := b07.trans (But.of (s8.trans s9))
    obtain ⟨M, hM⟩ : ∃ M : Int, M = 2000 := ⟨_, rfl⟩
    have p9 : Pot (upd H8 l3 (.lst [V.ref t1])) a M := p9.mono (by omega)
    generalize upd H8 l3 (.lst [V.ref t1]) = H9 at *
    generalize hdg : dGrid (sm ss) (sm rs) n k c = dg at *
    clear nl3 s8 s9 p7 p8 b07 hT1 hbd hdg
    -- the shifted ones
    refine ⟨.ref l3, rfl, _, rfl, _, rfl, sz60 (by simp), fun tt ntt => ?_⟩
    have s10 := same_upd (o := .tup [V.int 1, V.int (-1), V.int (-3), V.int 0]) ntt
    have htt : SqT K (upd H9 tt (.tup [V.int 1, V.int (-1), V.int (-3), V.int 0])) tt [V.int 1, V.int (-1), V.int (-3), V.int 0] := .inl (.inl upd_same)
    have hl3 := s10 _ _ hl3
    have hT9 := Dp.same s10 hT9
    have p9 := p9.same s10
    have K1 := Same.tup s10 K1
    have K2 := Same.tup s10 K2
    have b09 := b09.trans (But.of s10)
    refine ⟨tt, rfl, ⟨_, htt⟩, fun D nD => ?_⟩
    generalize upd H9 tt (.tup [V.int 1, V.int (-1), V.int (-3), V.int 0]) = H9 at *
    have nl3a : l3 ≠ a := nl3a0
    have nDa : D ≠ a := p9.ne nD
    have nl3D : l3 ≠ D := fun e => by rw [← e, hl3] at nD; cases nD
    have hT9q : Dq K (off a H9) (.ref t1) dg := Dq.offPot p9 ht hT9
    refine lc_it (walk_tup (xs := [V.int 1, V.int (-1), V.int (-3), V.int 0])) (fun i H' => B2 D a H9 H' ∧ Pot H' a (M + 20 * (i : Int)) ∧ ∃ acc : List V, H' D = some (.lst acc) ∧ acc.length = i ∧ ∀ x, x ∈ acc → ∃ d, Dq K (off D (off a H')) x d ∧ Tb d ∧ d.depth ≤ 6 ∧ d.bulk ≤ 600) ⟨B2.upd, p9.upd nDa |>.mono (by omega), [], upd_same, rfl, by simp⟩ (fun i H' _ h => by
      rcases htt with (z | ⟨_, z⟩) | z
      · exact .inl (.inl (h.1 _ _ (fun e => by rw [e, nD] at z; cases z) (fun e => by obtain ⟨_, _, _, zz, _⟩ := p9; rw [e, zz] at z; cases z) z))
      · exact .inl (.inr ⟨_, h.1 _ _ (fun e => by rw [e, nD] at z; cases z) (fun e => by obtain ⟨_, _, _, zz, _⟩ := p9; rw [e, zz] at z; cases z) z⟩)
      · exact .inr z) ?_ ?_
    · rintro i x H10 H10' hi ⟨b10, p10, acc, ha, hal, hacc⟩ ⟨rfl, hx⟩
      have hi4 : i < 4 := hi
      obtain ⟨by_, rfl, hby⟩ : ∃ by_ : Int, x = .int by_ ∧ by_.natAbs ≤ 10 := by
        have := List.mem_of_getElem? hx
        simp only [List.mem_cons, List.not_mem_nil, or_false] at this
        rcases this with rfl | rfl | rfl | rfl
        · exact ⟨_, rfl, by decide⟩
        · exact ⟨_, rfl, by decide⟩
        · exact ⟨_, rfl, by decide⟩
        · exact ⟨_, rfl, by decide⟩
      have hD10 : Dp K H10' (.ref t1) dg := tb_dp ht _ (Dq.same (off_sub.trans off_sub) (Dq.same b10.off (Dq.same (off_free nD) hT9q)))
      refine ⟨rfl, yesT ⟨.ref a, rfl, .ref l3, rfl, l3, [V.ref t1], 0, _, rfl, rfl, .inl (.inl (b10 _ _ nl3D nl3a hl3)), atI_nat (j := 0) rfl, _, rfl, a, .ref t1, by_, _, dg, n, k, c, rfl, p10, by omega, hD10, hG, ht, by omega, by omega, by omega, hby, hbd2, fun H11 r d' b11 p11 hd' hle => ?_⟩⟩
      have ha11 := b11 _ _ nDa ha
      refine ⟨acc, ha11, sz61 (by omega), (b10.trans (B2.of b11)).trans B2.upd, (p11.upd nDa).mono (by omega), acc ++ [.ref r], upd_same, by simp [hal], fun y hy => ?_⟩
      have bu : B2 D a H10' (upd H11 D (.lst (acc ++ [.ref r]))) := (B2.of b11).trans B2.upd
      rcases List.mem_append.mp hy with hy | hy
      · obtain ⟨d, e1, e2⟩ := hacc y hy
        exact ⟨d, Dq.same bu.off e1, e2⟩
      · rw [List.mem_singleton.mp hy]
        obtain ⟨la, hla⟩ : ∃ l, H11 a = some (.lst l) := by obtain ⟨_, _, _, h, _⟩ := p11; exact ⟨_, h⟩
        exact ⟨d', Dq.same (B2.off (D := D) (a := a) B2.upd) (dp_dq (fun p xs hs => off_tup hla ha11 hs) hle.tb _ hd'), hle.tb, Nat.le_trans hle.dep sd, Nat.le_trans hle.bulk sb⟩
    rintro H10 ⟨b10, p10, acc, ha, hal, hacc⟩
    have hal : acc.length = 4 := hal
    have bb10 : But a H9 H10 := b10.but nD
    refine ⟨l3, D, _, acc, rfl, rfl, bb10 _ _ nl3a hl3, ha, sz60 (by simp; omega), fun l4 nl4 => ?_⟩
    have s11 := same_upd (o := .lst ([V.ref t1] ++ acc)) nl4
    have hl4 := upd_same (H := H10) (a := l4) (o := .lst ([V.ref t1] ++ acc))
    have nl4a : l4 ≠ a := p10.ne nl4
    have TT2 : ∀ x, x ∈ [V.ref t1] ++ acc → TV K a (upd H10 l4 (.lst ([V.ref t1] ++ acc))) 600 x := fun x hx => by
      rcases List.mem_append.mp hx with hx | hx
      · rw [List.mem_singleton.mp hx]
        exact TV.but (TV.but ⟨dg, hT9q, ht, sd, sb⟩ bb10) (But.of s11)
      · obtain ⟨d, e1, e2⟩ := hacc x hx
        exact TV.but ⟨d, Dq.same off_sub e1, e2⟩ (But.of s11)
    have kp9 := p9.keep (K := K) bb10
    have K1 := Same.tup s11 (kp9 _ _ K1)
    have K2 := Same.tup s11 (kp9 _ _ K2)
    have b011 := (b09.trans bb10).trans (But.of s11)
    have p11 : Pot (upd H10 l4 (.lst ([V.ref t1] ++ acc))) a (M + 100) := (p10.same s11).mono (by omega)
    obtain ⟨L4, hL4⟩ : ∃ L4, L4 = [V.ref t1] ++ acc := ⟨_, rfl⟩
    have hL4n : L4.length = 5 := by rw [hL4]; simp [hal]
    rw [← hL4] at TT2 hl4 K1 K2 b011 p11 ⊢
    generalize upd H10 l4 (.lst L4) = H11 at *
    clear hacc ha hal b10 p10 bb10 s11 nl4 hl3 p9 kp9 b09 hL4 nD nDa nl3D hT9 hT9q htt
    -- the bent ones
    refine ⟨.ref l4, rfl, _, rfl, by decide, by decide, fun D nD => ?_⟩
    have nDa : D ≠ a := p11.ne nD
    have nl4D : l4 ≠ D := fun e => by rw [← e, hl4] at nD; cases nD
    refine lc_it walk_range (fun i H' => B2 D a H11 H' ∧ Pot H' a (M + 100 + 4000 * (i : Int)) ∧ ∃ acc : List V, H' D = some (.lst acc) ∧ acc.length = i ∧ ∀ x, x ∈ acc → Anyv K D a H' x 30 2000) ⟨B2.upd, (p11.upd nDa).mono (by omega), [], upd_same, rfl, by simp⟩ (fun _ _ _ _ => trivial) ?_ ?_
    · rintro i x H10 H10' hi ⟨b10, p10, acc, ha, hal, hacc⟩ hy
      obtain ⟨rfl, rfl⟩ := hy
      have hi3 : i < 10 := hi
      refine ⟨rfl, yesT ⟨.ref a, rfl, .ref a, rfl, .ref l4, rfl, a, l4, L4, _, rfl, p10, by omega, b10 _ _ nl4D nl4a hl4, nl4a, (by intro z; rw [z] at hL4n; cases hL4n), by omega, fun H12 v b12 p12 hv => ?_⟩⟩
      obtain ⟨d, q1, q2, q3, q4⟩ := TT2 v hv
      have ha12 := b12 _ _ nDa ha
      have bx : B2 D a H11 H12 := b10.trans (B2.of b12)
      have hs12 : H12 sysModules = some o := by
        have h11 : H11 sysModules = some o := b011 _ _ (Ne.symm nas) hsys
        exact bx _ _ (fun e => by rw [e, nD] at h11; cases h11) (Ne.symm nas) h11
      refine ⟨a, D, v, d, 6, 600, _, o, acc, rfl, p12, by omega, by omega, hs12, nas, ha12, Dq.same bx.off (Dq.same (off_free nD) q1), q2, q3, q4, by omega, by omega, by omega, fun H13 y b13 p13 hy => ?_⟩
      have ha13 := b13 _ _ nDa ha12
      refine ⟨acc, ha13, sz61 (by omega), ((bx.trans (B2.of b13))).trans B2.upd, (p13.upd nDa).mono (by omega), acc ++ [y], upd_same, by simp [hal], fun z hz => ?_⟩
      have bu : B2 D a H10' (upd H13 D (.lst (acc ++ [y]))) := ((B2.of b12).trans (B2.of b13)).trans B2.upd
      rcases List.mem_append.mp hz with hz | hz
      · exact (hacc z hz).b2 bu
      · rw [List.mem_singleton.mp hz]
        exact (hy.b2 (B2.upd (D := D))).mono (by omega) (by omega)
    rintro H12 ⟨b12, p12, acc, ha, hal, hacc⟩
    have hal : acc.length = 10 := hal
    have bb12 : But a H11 H12 := b12.but nD
    refine ⟨l4, D, _, acc, rfl, rfl, bb12 _ _ nl4a hl4, ha, sz60 (by omega), fun l5 nl5 => ?_⟩
    have s13 := same_upd (o := .lst (L4 ++ acc)) nl5
    have hl5 := upd_same (H := H12) (a := l5) (o := .lst (L4 ++ acc))
    have nl5a : l5 ≠ a := p12.ne nl5
    have AA : ∀ x, x ∈ L4 ++ acc → AV K a (upd H12 l5 (.lst (L4 ++ acc))) x := fun x hx => by
      rcases List.mem_append.mp hx with hx | hx
      · exact (((TT2 x hx).but bb12).but (But.of s13)).av (by omega)
      · exact ((hacc x hx).av (by omega) (by omega)).but (But.of s13)
    have kp11 := p11.keep (K := K) bb12
    have K1 := Same.tup s13 (kp11 _ _ K1)
    have K2 := Same.tup s13 (kp11 _ _ K2)
    have b013 := (b011.trans bb12).trans (But.of s13)
    have p13 : Pot (upd H12 l5 (.lst (L4 ++ acc))) a (M + 50000) := (p12.same s13).mono (by omega)
    obtain ⟨L5, hL5⟩ : ∃ L5, L5 = L4 ++ acc := ⟨_, rfl⟩
    have hL5n : L5.length = 15 := by rw [hL5]; simp [hal, hL4n]
    rw [← hL5] at AA hl5 K1 K2 b013 p13 ⊢
    generalize upd H12 l5 (.lst L5) = H13 at *
    clear hacc ha hal b12 p12 bb12 s13 nl5 TT2 hl4 p11 kp11 b011 hL5 nD nDa nl4D hL4n nl4a
    -- all things
    have hs13 : H13 sysModules = some o := b013 _ _ (Ne.symm nas) hsys
    have ha13 : ∃ u, H13 a = some u := by obtain ⟨_, _, _, h, _⟩ := p13; exact ⟨_, h⟩
    refine ⟨.ref l5, rfl, .ref a, rfl, a, a, _, o, rfl, p13, by omega, by omega, hs13, nas, ha13, fun H14 x1 b14 p14 hx1 => ?_⟩
    have av1 : AV K a H14 x1 := hx1.av (by omega) (by omega)
    refine ⟨sz60 (by simp), fun e1 ne1 => ?_⟩
    refine ⟨sz60 (by simp), fun e2 ne2 => ?_⟩
    refine ⟨sz60 (by simp), fun e3 ne3 => ?_⟩
    refine ⟨sz60 (by simp), fun e4 ne4 => ?_⟩
    refine ⟨sz60 (by simp), fun e5 ne5 => ?_⟩
    refine ⟨sz60 (by simp), fun e6 ne6 => ?_⟩
    refine ⟨sz60 (by simp), fun l6 nl6 => ?_⟩
    have z1 := same_upd (o := .tup []) ne1
    have z2 := same_upd (o := .tup []) ne2
    have z3 := same_upd (o := .tup [V.ref e2]) ne3
    have z4 := same_upd (o := .tup []) ne4
    have z5 := same_upd (o := .tup [V.ref e4]) ne5
    have z6 := same_upd (o := .tup [V.ref e5]) ne6
    have z7 := same_upd (o := .lst [x1, V.non, V.ref e1, V.ref e3, V.ref e6]) nl6
    have w6 := z6.trans z7
    have w5 := z5.trans w6
    have w4 := z4.trans w5
    have w3 := z3.trans w4
    have w2 := z2.trans w3
    have w1 := z1.trans w2
    have f1 := w2 _ _ (upd_same (H := H14) (a := e1) (o := .tup []))
    have f2 := w3 _ _ (upd_same (a := e2) (o := .tup []))
    have f3 := w4 _ _ (upd_same (a := e3) (o := .tup [V.ref e2]))
    have f4 := w5 _ _ (upd_same (a := e4) (o := .tup []))
    have f5 := w6 _ _ (upd_same (a := e5) (o := .tup [V.ref e4]))
    have f6 := z7 _ _ (upd_same (a := e6) (o := .tup [V.ref e5]))
    have na1 : e1 ≠ a := p14.ne ne1
    have na2 : e2 ≠ a := (p14.same z1).ne ne2
    have na3 : e3 ≠ a := ((p14.same z1).same z2).ne ne3
    have na4 : e4 ≠ a := (((p14.same z1).same z2).same z3).ne ne4
    have na5 : e5 ≠ a := ((((p14.same z1).same z2).same z3).same z4).ne ne5
    have na6 : e6 ≠ a := (((((p14.same z1).same z2).same z3).same z4).same z5).ne ne6
    have hl6 := upd_same (H := upd (upd (upd (upd (upd (upd H14 e1 (.tup [])) e2 (.tup [])) e3 (.tup [V.ref e2])) e4 (.tup [])) e5 (.tup [V.ref e4])) e6 (.tup [V.ref e5])) (a := l6) (o := .lst [x1, V.non, V.ref e1, V.ref e3, V.ref e6])
    have b1416 : But a H13 _ := b14.trans (But.of w1)
    have p14' := p14.same w1
    have av1 : AV K a _ x1 := av1.but (But.of w1)
    generalize upd (upd (upd (upd (upd (upd (upd H14 e1 (.tup [])) e2 (.tup [])) e3 (.tup [V.ref e2])) e4 (.tup [])) e5 (.tup [V.ref e4])) e6 (.tup [V.ref e5])) l6 (.lst [x1, V.non, V.ref e1, V.ref e3, V.ref e6]) = H15 at *
    clear z1 z2 z3 z4 z5 z6 z7 w1 w2 w3 w4 w5 w6 ne1 ne2 ne3 ne4 ne5 ne6 nl6
    refine ⟨l5, l6, _, _, rfl, rfl, b1416 _ _ nl5a hl5, hl6, sz60 (by simp; omega), fun l7 nl7 => ?_⟩
    have z7 := same_upd (o := .lst (L5 ++ [x1, V.non, V.ref e1, V.ref e3, V.ref e6])) nl7
    have nl7a : l7 ≠ a := p14'.ne nl7
    have b15 := b1416.trans (But.of z7)
    have p15 := p14'.same z7
    have g1 := z7 _ _ f1
    have g2 := z7 _ _ f2
    have g3 := z7 _ _ f3
    have g4 := z7 _ _ f4
    have g5 := z7 _ _ f5
    have g6 := z7 _ _ f6
    have hl7 := upd_same (H := H15) (a := l7) (o := .lst (L5 ++ [x1, V.non, V.ref e1, V.ref e3, V.ref e6]))
    have AV7 : ∀ x, x ∈ L5 ++ [x1, V.non, V.ref e1, V.ref e3, V.ref e6] → AV K a (upd H15 l7 (.lst (L5 ++ [x1, V.non, V.ref e1, V.ref e3, V.ref e6]))) x := fun x hx => by
      rcases List.mem_append.mp hx with hx | hx
      · exact (AA x hx).but b15
      · simp only [List.mem_cons, List.not_mem_nil, or_false] at hx
        have at' : ∀ {e : Addr} {u : HO} {G : Hp}, G e = some u → e ≠ a → (off a G) e = some u := fun h n => by rw [off_at n]; exact h
        rcases hx with rfl | rfl | rfl | rfl | rfl
        · exact av1.but (But.of z7)
        · exact ⟨_, .nonq, .none⟩
        · exact ⟨.tuple [], .tupq (.inl (.inl (at' g1 na1))) .nil, by constructor <;> decide +kernel⟩
        · exact ⟨.tuple [.tuple []], .tupq (.inl (.inl (at' g3 na3))) (.cons (.tupq (.inl (.inl (at' g2 na2))) .nil) .nil), by constructor <;> decide +kernel⟩
        · exact ⟨.tuple [.tuple [.tuple []]], .tupq (.inl (.inl (at' g6 na6))) (.cons (.tupq (.inl (.inl (at' g5 na5))) (.cons (.tupq (.inl (.inl (at' g4 na4))) .nil) .nil)) .nil), by constructor <;> decide +kernel⟩
    have kp13 := p13.keep (K := K) b15
    have K1 := kp13 _ _ K1
    have K2 := kp13 _ _ K2
    have b015 := b013.trans b15
    have p15 : Pot (upd H15 l7 (.lst (L5 ++ [x1, V.non, V.ref e1, V.ref e3, V.ref e6]))) a 60000 := p15.mono (by omega)
    obtain ⟨L7, hL7⟩ : ∃ L7, L7 = L5 ++ [x1, V.non, V.ref e1, V.ref e3, V.ref e6] := ⟨_, rfl⟩
    have hL7n : L7.length = 20 := by rw [hL7]; simp [hL5n]
    rw [← hL7] at AV7 hl7 K1 K2 b015 p15 ⊢
    generalize upd H15 l7 (.lst L7) = G0 at *
    clear z7 f1 f2 f3 f4 f5 f6 g1 g2 g3 g4 g5 g6 hl6 hl5 AA hL7 p14 p14' p13 b1416 b14 b15 b013 kp13 nl7 av1 hx1 hs13 ha13 na1 na2 na3 na4 na5 na6
    refine ⟨l7, rfl, ⟨_, .inl (.inl hl7)⟩, for_list (K := K) (xs := L7) (fun i σ H' => ∃ y8 y9 y10 y11 y12 y13 y14, σ = [some (.ref a), some (.int (n : Int)), some (.int wd), some (.ref u1), some (.ref u2), some (.int (k : Int)), some (.int (c : Int)), some (.ref l5), y8, y9, y10, y11, y12, y13, y14, none, none] ∧ But a G0 H' ∧ Pot H' a (60000 + 100 * (i : Int))) ⟨_, _, _, _, _, _, _, rfl, But.refl, p15.mono (by omega)⟩ (fun i σ H' _ h => by obtain ⟨_, _, _, _, _, _, _, _, b, _⟩ := h; exact .inl (.inl (b _ _ nl7a hl7))) ?_ ?_⟩
    rotate_left
    · rintro σ H' ⟨y8, y9, y10, y11, y12, y13, y14, rfl, b, _⟩
      exact q _ (b015.trans b)
    rintro i x σ G1 hx ⟨y8, y9, y10, y11, y12, y13, y14, rfl, b1, p1⟩
    have hi : i < 20 := by have := (List.getElem?_eq_some_iff.mp hx).1; omega
    obtain ⟨d, hq0, hsn⟩ := AV7 x (List.mem_of_getElem? hx)
    have hq1 := Dq.same off_sub (Dq.same (off_but b1) hq0)
    have kp1 := p15.keep (K := K) b1
    have M1 := kp1 _ _ K1
    have M2 := kp1 _ _ K2
    refine ⟨.ref u1, rfl, .ref u2, rfl, _, rfl, _, rfl, x, rfl, u1, u2, x, d, ss, rs, k, c, rfl, M1, M2, by omega, by omega, by omega, by omega, hq1, fun G2 s2 => ?_⟩
    rw [l1]
    have p2 := p1.same s2
    have b02 := b1.trans (But.of s2)
    have hq2 := Dq.same s2 hq1
    have M1 := Same.tup s2 M1
    have M2 := Same.tup s2 M2
    obtain ⟨CC, hCC⟩ : ∃ CC, CC = certD (sm ss) (sm rs) n k c d := ⟨_, rfl⟩
    rw [← hCC]
    refine ⟨_, rfl, CC, rfl, ?_⟩
    obtain ⟨MM, hMM⟩ : ∃ MM : Int, MM = 60000 + 100 * (i : Int) := ⟨_, rfl⟩
    rw [← hMM] at p2
    have hsnB : CC = true → Sn 30 30000 (dO (Tc d k c 0 n)) := fun hz => by
      rw [hCC] at hz
      unfold certD at hz
      rw [Bool.and_eq_true] at hz
      obtain ⟨ls, eD, _, hline⟩ := grid_inv (shD_grid hz.1)
      obtain ⟨cs, hcs, _, hcell⟩ := hline k (Nat.le_refl _)
      have h1 := hsn
      rw [eD] at h1
      have h2 := h1.mem (List.mem_of_getElem? hcs)
      have h3 := h2.mem (List.mem_of_getElem? (hcell c (Nat.le_refl _)))
      unfold dTabO at h3
      have h4 := h3.mem (List.mem_map.mpr ⟨0, List.mem_range.mpr (by omega), rfl⟩)
      unfold dRowO at h4
      exact h4.mem (List.mem_map.mpr ⟨Tc d k c 0 n, List.mem_of_getElem? (rowO_at (by omega)), rfl⟩)
    by_cases hcc : CC = true
    case' pos =>
      refine iteB1 hcc ?_
      have hgd' : Good k c n d := by
        have hz := hcc
        rw [hCC] at hz
        unfold certD at hz
        rw [Bool.and_eq_true] at hz
        exact shD_grid hz.1
      obtain ⟨pp, _, _, _, _, ex, _⟩ := hgd'.at hq2 (Nat.le_refl k) (Nat.le_refl c)
      subst ex
      obtain ⟨xs', r', ys', t', ts', q', os', a1, a2, a3, a4, a5, a6, a7, a8⟩ := cell_rd (i := 0) (m := n) hgd' hq2 (Nat.le_refl k) (Nat.le_refl c) (by omega)
      refine ⟨.ref pp, rfl, _, rfl, pp, xs', _, _, rfl, rfl, a1, atI_nat a2, _, rfl, r', ys', _, _, rfl, rfl, a3, atI_nat a4, t', ts', 0, _, rfl, rfl, a5, atI_nat (j := 0) a6, _, rfl, q', os', _, _, rfl, rfl, a7, atI_nat a8, ?_⟩
      have b3 : But a G2 G2 := But.refl
      have p3 : Pot G2 a (MM + 1) := p2.mono (by omega)
      obtain ⟨db, hdb, hsb⟩ : ∃ db, (∀ G, Dq K G (ov (Tc d k c 0 n)) db) ∧ Sn 30 30000 db := ⟨dO (Tc d k c 0 n), fun G => by
        cases Tc d k c 0 n
        · exact .nonq
        · exact .intq _, hsnB hcc⟩
      clear a1 a2 a3 a4 a5 a6 a7 a8 hgd'
      generalize hbb : ov (Tc d k c 0 n) = best at hdb ⊢
      have hbest : CC = true → best = ov (Tc d k c 0 n) := fun _ => hbb.symm
      generalize hxx : V.ref pp = x at *
      clear hxx
    case' neg =>
      refine iteB0 (by simpa using hcc) ?_
      refine ⟨.ref a, rfl, a, 20, _, rfl, p2, by omega, by decide, by decide, fun G3 bst b3 p3 r0 r1 => ?_⟩
      obtain ⟨db, hdb, hsb⟩ : ∃ db, (∀ G, Dq K G (.int bst) db) ∧ Sn 30 30000 db := ⟨.int bst, fun G => .intq _, .intB (by omega)⟩
      generalize hbb : V.int bst = best at hdb ⊢
      have hbest : CC = true → best = ov (Tc d k c 0 n) := fun z => absurd z hcc
    all_goals (
      have hs4 := (b015.trans (b02.trans b3)) _ _ (Ne.symm nas) hsys
      have ha4 : ∃ u, (_ : Hp) a = some u := (by obtain ⟨_, _, _, hh, _⟩ := id p3; exact ⟨_, hh⟩)
      refine ⟨_, rfl, .ref a, rfl, a, a, _, o, rfl, p3, by omega, by omega, hs4, nas, ha4, fun G4 y b4 p4 hy => ⟨sz60 (by simp), fun t nt => ?_⟩⟩
      have s5 := same_upd (o := .tup [best, V.int 0, V.non, y]) nt
      have ht5 := upd_same (H := G4) (a := t) (o := .tup [best, V.int 0, V.non, y])
      have b25 := (b3.trans b4).trans (But.of s5)
      have N1 := (p2.keep (K := K) b25) _ _ M1
      have N2 := (p2.keep (K := K) b25) _ _ M2
      have hq5 := Dq.same off_sub (Dq.same (off_but ((b02).trans b25)) hq0)
      have p5 := p4.same s5
      have hyA := (hy.av (by omega) (by omega)).but (But.of s5)
      have b05 := b02.trans b25
      generalize upd G4 t (.tup [best, V.int 0, V.non, y]) = G5 at *
      refine ⟨t, rfl, ⟨_, .inl (.inl ht5)⟩, for_tup (K := K) (xs := [best, V.int 0, V.non, y]) (fun j σ H' => ∃ y11 y12 y13 y14, σ = [some (.ref a), some (.int (n : Int)), some (.int wd), some (.ref u1), some (.ref u2), some (.int (k : Int)), some (.int (c : Int)), some (.ref l5), some x, some (.bl CC), some best, y11, y12, y13, y14, none, none] ∧ Same G5 H') ⟨_, _, _, _, rfl, Same.refl _⟩ (fun i σ H' _ h => by obtain ⟨_, _, _, _, _, s⟩ := h; exact Same.tup s (.inl (.inl ht5))) ?_ ?_⟩
      rotate_left
      · rintro σ H' ⟨y11, y12, y13, y14, rfl, s⟩
        exact ⟨_, _, _, _, _, _, _, rfl, b05.trans (But.of s), (p5.same s).mono (by omega)⟩
      rintro j bv σ H6 hj ⟨y11, y12, y13, y14, rfl, s6⟩
      obtain ⟨dx, hqx, hsx⟩ : ∃ dx, Dq K H6 bv dx ∧ Sn 30 30000 dx := by
        have hm := List.mem_of_getElem? hj
        simp only [List.mem_cons, List.not_mem_nil, or_false] at hm
        rcases hm with rfl | rfl | rfl | rfl
        · exact ⟨_, hdb _, hsb⟩
        · exact ⟨_, .intq _, .intB (by decide +kernel)⟩
        · exact ⟨_, .nonq, .none⟩
        · obtain ⟨dx, e1, e2⟩ := hyA.but (But.of s6)
          exact ⟨dx, Dq.same off_sub e1, e2⟩
      have hq6 := Dq.same s6 hq5
      obtain ⟨R1, R2, R3⟩ := (hsn.t2 hsx).repr (by omega) (by omega)
      refine ⟨x, rfl, bv, rfl, sz60 (by simp), fun tp np => ⟨.ref tp, .tuple [d, dx], rfl, .tupq (.inl (.inl upd_same)) (.cons (Dq.same (same_upd np) hq6) (.cons (Dq.same (same_upd np) hqx) .nil)), R1, R2, R3, ?_⟩⟩
      have s67 := same_upd (o := .tup [x, bv]) np
      generalize upd H6 tp (.tup [x, bv]) = H7 at *
      have s7 := s6.trans s67
      have hq7 := Dq.same s7 hq5
      have hqx7 := Dq.same s67 hqx
      refine ⟨_, rfl, CC, rfl, ?_⟩
      have SB : ∀ b : Bool, (PyData.bool b).showable = true ∧ (PyData.bool b).depth ≤ 60 ∧ (PyData.bool b).shown.length ≤ sizeLine := fun b => (Sn.bool (k := 0) (n := 0) (b := b)).repr (by decide) (by decide)
      have N1' := Same.tup s7 N1
      have N2' := Same.tup s7 N2
      by_cases hz : CC = true
      case' neg =>
        refine iteB0 (by simpa using hz) ?_
        have hdue : swD (sm ss) (sm rs) n k c dx d = false := by
          rw [sw_cert, ← hCC, show CC = false by simpa using hz]; simp
      case' pos =>
        refine iteB1 hz ?_
        by_cases hi : isBndD dx = true
        case' neg =>
          have hib : isBndD dx = false := by simpa using hi
          refine or_bnd hqx7 rfl ⟨isBndD dx, rfl, iteB0 hib ?_⟩
          have hdue : swD (sm ss) (sm rs) n k c dx d = false := by
            rw [sw_cert, hib]; rfl
        case' pos =>
          refine or_bnd hqx7 rfl ⟨isBndD dx, rfl, iteB1 hi ?_⟩
          obtain ⟨o', rfl, eo⟩ : ∃ o', bv = ov o' ∧ numO dx = o' := by
            cases hqx7 with
            | nonq => exact ⟨none, rfl, rfl⟩
            | intq i => exact ⟨some i, rfl, rfl⟩
            | blq b => cases hi
            | strq b => cases hi
            | lstq _ _ _ => cases hi
            | tupq _ _ => cases hi
            | dctq _ _ _ => cases hi
          refine ⟨_, rfl, _, rfl, ?_, ?_⟩
          · rw [hbest hz]
            cases o' <;> cases Tc d k c 0 n <;> rfl
          have hdue : swD (sm ss) (sm rs) n k c dx d = decide (ov o' = best) := by
            rw [sw_cert, ← hCC, hz, hi, eo, hbest hz, Bool.true_and, Bool.true_and]
            cases o' <;> cases Tc d k c 0 n <;> simp [ov, eq_comm]
      all_goals (
        refine ⟨.ref u1, rfl, .ref u2, rfl, _, rfl, _, rfl, _, rfl, x, rfl, u1, u2, ss, rs, k, c, _, x, dx, d, rfl, N1', N2', dS, dR, by omega, by omega, by omega, by omega, hqx7, hq7, fun H8 s8 => ?_⟩
        rw [l1, hdue]
        refine ⟨_, rfl, _, .bool _, rfl, .blq _, (SB _).1, (SB _).2.1, (SB _).2.2, _, rfl, _, .bool _, rfl, .blq _, (SB _).1, (SB _).2.1, (SB _).2.2, rfl, _, rfl, iteB0 (by simp) ?_⟩
        refine ⟨x, rfl, _, rfl, sz60 (by simp), fun tp2 np2 => ⟨.ref tp2, .tuple [d, _], rfl, .tupq (.inl (.inl upd_same)) (.cons (Dq.same (s8.trans (same_upd np2)) hq7) (.cons (Dq.same (s8.trans (same_upd np2)) hqx7) .nil)), R1, R2, R3, _, rfl, rfl, _, rfl, iteB0 (by simp) ?_⟩⟩
        exact ⟨_, _, _, _, rfl, s7.trans (s8.trans (same_upd np2))⟩))
end
section
variable {P : Program} {w : World} {K : PySem.W.Frag} {mg : Str → Option Value} {base : Heap}
def sp_law (K : PySem.W.Frag) : Sp := fun vs H Q _ => ∃ (a : Addr) (ns : List Int) (o : HO), vs = [.ref a] ∧ SqL K H a (ns.map V.int) ∧ ns.length ≤ 63 ∧ H sysModules = some o ∧ ∀ H', Q (.bl true) H'
theorem ok_law (TX : Tx K mg) : FnG P w K mg base CX0 66 TX.a_law TX.fd_law ["_law_script"] (sp_law K) := by
  refine Fun.okG TX.f_law sc_law (fun vs H Q E h => ?_) (fun cdv A hgd outer s H vs Q E hr h => ?_)
  · obtain ⟨a, ns, o, rfl, _⟩ := h; rfl
  · obtain ⟨a, ns, o, rfl, hS, hlen, hsys, q⟩ := h
    refine ⟨_, (pss_one (ps_ret (pe_callB (id := "all") (cr_all rfl) (by rfl) TX.b_all (by decide +kernel) (pa_cons (pe_lc (own := [("_law_k", 1)]) (by rfl) sc_law.nd (pi_range1 (by rfl) TX.b_range (pa_cons (pe_op op_add pe_int (pe_callB (id := "min") (call_min2 rfl) (by rfl) TX.b_min (by decide +kernel) (pa_cons pe_int (pa_cons (pe_callB (id := "len") (k_len (K := K) rfl) (by rfl) TX.b_len (by decide +kernel) (pa_cons (pv 0) pa_nil)) pa_nil)))) pa_nil)) (blkOk_by (own := [("_law_k", 1)]) (N := N_law) (sc := defScope s_law) (by decide +kernel)) (fun _ _ _ _ _ => (pg_name (i := 1) sc_law.nd rfl (Or.inl rfl))) (fun _ _ _ _ _ => pts_nil) (fun _ _ _ _ _ => (pe_callG (ok_L_right TX) hgd (hr.mono (by decide)) (by rfl) TX.g_L_right TX.f_L_right.kp TX.bd_L_right .nil pass0 (pa_cons (pe_call (ok_L_pot TX) (hr.mono (by decide)) (by rfl) TX.g_L_pot TX.f_L_pot.kp TX.bd_L_pot .nil pass0 (pa_cons (pv 0) (pa_cons (pv 1) pa_nil))) pa_nil)))) pa_nil)))), ?_⟩
    refine ⟨.ref a, rfl, a, _, rfl, .inl hS, _, _, rfl, _, _, rfl, rfl, ?_⟩
    obtain ⟨m, hm⟩ : ∃ m : Nat, m = (1 + (if ((ns.map V.int).length : Int) < 3 then ((ns.map V.int).length : Int) else 3)).toNat := ⟨_, rfl⟩
    have hm2 : m ≤ 4 := by rw [hm]; split <;> omega
    refine ⟨_, rfl, by split <;> omega, by split <;> omega, fun D nD => ?_⟩
    refine lc_all (K := K) walk_range ((List.replicate m true).map PyData.bool) (by rw [List.length_map, List.length_replicate, hm]) (fun d h => by obtain ⟨b, _, rfl⟩ := List.mem_map.mp h; exact .bl b) (by split <;> omega) nD (fun _ _ => trivial) ?_ ?_ (fun x σ' H' Q Q' h => h _ _) (fun σ' H' Q Q' h => h _ _)
    · rintro i x Hx Hx' hi sx hy d hd R hR
      obtain ⟨rfl, rfl⟩ := hy
      have hi2 : i < m := by rw [hm]; exact hi
      have ei : (0 : Int) + ((i : Nat) : Int) = ((i : Nat) : Int) := by omega
      dsimp only
      rw [ei]
      rw [List.getElem?_map, List.getElem?_replicate, if_pos hi2] at hd
      cases hd
      refine ⟨rfl, rfl, .ref a, rfl, _, rfl, a, ns, i, rfl, sx.seq hS, by omega, fun H2 p s2 np pp => ?_⟩
      have hs2 := s2 _ _ (sx _ _ hsys)
      have nps : p ≠ sysModules := fun z => by rw [z, sx _ _ hsys] at np; cases np
      exact ⟨p, o, rfl, pp, hs2, nps, fun H3 b3 => hR _ _ (But.same s2 b3 np) (.bl true)⟩
    · intro H2 acc s2 ha hA
      rw [dpBoolsI hA] at ha
      refine ⟨D, List.replicate m true, rfl, .inl (.inl ha), ?_⟩
      rw [show (List.replicate m true).all id = true by simp]
      exact q _
end
theorem all_mk {l : PySem.W.OpenLaw} {w : World} {K : PySem.W.Frag} {h : Heap} {mg : Str → Option Value} {fa : Addr} (X : K.In h) (G : h.Ns mainGlobals mg) (hfa : mg "law" = some (.ref fa))
    {f_is_int : Addr} {od_is_int an_is_int : Option Addr} {sl_is_int : Array (Option Value)} {oc_is_int kV_is_int dc_is_int pm_is_int cd_is_int ct_is_int : Value}
    (a_is_int : PySem.W.nsIn K mainGlobals "is_int" = some (some (.ref f_is_int))) (l_is_int : K.lookup f_is_int = some ⟨oc_is_int, od_is_int, .func (PySem.W.fnOf "is_int" "is_int" (defArgs s_is_int) (defBody s_is_int) (defScope s_is_int) .none kV_is_int dc_is_int pm_is_int an_is_int cd_is_int ct_is_int), sl_is_int⟩) (c_is_int : PySem.W.codeIn K cd_is_int "is_int" = true) (k_is_int : PySem.W.keepIn K (.ref f_is_int) = true)
    {f_is_count : Addr} {od_is_count an_is_count : Option Addr} {sl_is_count : Array (Option Value)} {oc_is_count kV_is_count dc_is_count pm_is_count cd_is_count ct_is_count : Value}
    (a_is_count : PySem.W.nsIn K mainGlobals "is_count" = some (some (.ref f_is_count))) (l_is_count : K.lookup f_is_count = some ⟨oc_is_count, od_is_count, .func (PySem.W.fnOf "is_count" "is_count" (defArgs s_is_count) (defBody s_is_count) (defScope s_is_count) .none kV_is_count dc_is_count pm_is_count an_is_count cd_is_count ct_is_count), sl_is_count⟩) (c_is_count : PySem.W.codeIn K cd_is_count "is_count" = true) (k_is_count : PySem.W.keepIn K (.ref f_is_count) = true)
    {f_is_count_up_to : Addr} {od_is_count_up_to an_is_count_up_to : Option Addr} {sl_is_count_up_to : Array (Option Value)} {oc_is_count_up_to kV_is_count_up_to dc_is_count_up_to pm_is_count_up_to cd_is_count_up_to ct_is_count_up_to : Value}
    (a_is_count_up_to : PySem.W.nsIn K mainGlobals "is_count_up_to" = some (some (.ref f_is_count_up_to))) (l_is_count_up_to : K.lookup f_is_count_up_to = some ⟨oc_is_count_up_to, od_is_count_up_to, .func (PySem.W.fnOf "is_count_up_to" "is_count_up_to" (defArgs s_is_count_up_to) (defBody s_is_count_up_to) (defScope s_is_count_up_to) .none kV_is_count_up_to dc_is_count_up_to pm_is_count_up_to an_is_count_up_to cd_is_count_up_to ct_is_count_up_to), sl_is_count_up_to⟩) (c_is_count_up_to : PySem.W.codeIn K cd_is_count_up_to "is_count_up_to" = true) (k_is_count_up_to : PySem.W.keepIn K (.ref f_is_count_up_to) = true)
    {f_check_budgets : Addr} {od_check_budgets an_check_budgets : Option Addr} {sl_check_budgets : Array (Option Value)} {oc_check_budgets kV_check_budgets dc_check_budgets pm_check_budgets cd_check_budgets ct_check_budgets : Value}
    (a_check_budgets : PySem.W.nsIn K mainGlobals "check_budgets" = some (some (.ref f_check_budgets))) (l_check_budgets : K.lookup f_check_budgets = some ⟨oc_check_budgets, od_check_budgets, .func (PySem.W.fnOf "check_budgets" "check_budgets" (defArgs s_check_budgets) (defBody s_check_budgets) (defScope s_check_budgets) .none kV_check_budgets dc_check_budgets pm_check_budgets an_check_budgets cd_check_budgets ct_check_budgets), sl_check_budgets⟩) (c_check_budgets : PySem.W.codeIn K cd_check_budgets "check_budgets" = true) (k_check_budgets : PySem.W.keepIn K (.ref f_check_budgets) = true)
    {f_are_loads : Addr} {od_are_loads an_are_loads : Option Addr} {sl_are_loads : Array (Option Value)} {oc_are_loads kV_are_loads dc_are_loads pm_are_loads cd_are_loads ct_are_loads : Value}
    (a_are_loads : PySem.W.nsIn K mainGlobals "are_loads" = some (some (.ref f_are_loads))) (l_are_loads : K.lookup f_are_loads = some ⟨oc_are_loads, od_are_loads, .func (PySem.W.fnOf "are_loads" "are_loads" (defArgs s_are_loads) (defBody s_are_loads) (defScope s_are_loads) .none kV_are_loads dc_are_loads pm_are_loads an_are_loads cd_are_loads ct_are_loads), sl_are_loads⟩) (c_are_loads : PySem.W.codeIn K cd_are_loads "are_loads" = true) (k_are_loads : PySem.W.keepIn K (.ref f_are_loads) = true)
    {f_check_sizes : Addr} {od_check_sizes an_check_sizes : Option Addr} {sl_check_sizes : Array (Option Value)} {oc_check_sizes kV_check_sizes dc_check_sizes pm_check_sizes cd_check_sizes ct_check_sizes : Value}
    (a_check_sizes : PySem.W.nsIn K mainGlobals "check_sizes" = some (some (.ref f_check_sizes))) (l_check_sizes : K.lookup f_check_sizes = some ⟨oc_check_sizes, od_check_sizes, .func (PySem.W.fnOf "check_sizes" "check_sizes" (defArgs s_check_sizes) (defBody s_check_sizes) (defScope s_check_sizes) .none kV_check_sizes dc_check_sizes pm_check_sizes an_check_sizes cd_check_sizes ct_check_sizes), sl_check_sizes⟩) (c_check_sizes : PySem.W.codeIn K cd_check_sizes "check_sizes" = true) (k_check_sizes : PySem.W.keepIn K (.ref f_check_sizes) = true)
    {f_check_reads : Addr} {od_check_reads an_check_reads : Option Addr} {sl_check_reads : Array (Option Value)} {oc_check_reads kV_check_reads dc_check_reads pm_check_reads cd_check_reads ct_check_reads : Value}
    (a_check_reads : PySem.W.nsIn K mainGlobals "check_reads" = some (some (.ref f_check_reads))) (l_check_reads : K.lookup f_check_reads = some ⟨oc_check_reads, od_check_reads, .func (PySem.W.fnOf "check_reads" "check_reads" (defArgs s_check_reads) (defBody s_check_reads) (defScope s_check_reads) .none kV_check_reads dc_check_reads pm_check_reads an_check_reads cd_check_reads ct_check_reads), sl_check_reads⟩) (c_check_reads : PySem.W.codeIn K cd_check_reads "check_reads" = true) (k_check_reads : PySem.W.keepIn K (.ref f_check_reads) = true)
    {f_check_loads : Addr} {od_check_loads an_check_loads : Option Addr} {sl_check_loads : Array (Option Value)} {oc_check_loads kV_check_loads dc_check_loads pm_check_loads cd_check_loads ct_check_loads : Value}
    (a_check_loads : PySem.W.nsIn K mainGlobals "check_loads" = some (some (.ref f_check_loads))) (l_check_loads : K.lookup f_check_loads = some ⟨oc_check_loads, od_check_loads, .func (PySem.W.fnOf "check_loads" "check_loads" (defArgs s_check_loads) (defBody s_check_loads) (defScope s_check_loads) .none kV_check_loads dc_check_loads pm_check_loads an_check_loads cd_check_loads ct_check_loads), sl_check_loads⟩) (c_check_loads : PySem.W.codeIn K cd_check_loads "check_loads" = true) (k_check_loads : PySem.W.keepIn K (.ref f_check_loads) = true)
    {f_load_sums : Addr} {od_load_sums an_load_sums : Option Addr} {sl_load_sums : Array (Option Value)} {oc_load_sums kV_load_sums dc_load_sums pm_load_sums cd_load_sums ct_load_sums : Value}
    (a_load_sums : PySem.W.nsIn K mainGlobals "load_sums" = some (some (.ref f_load_sums))) (l_load_sums : K.lookup f_load_sums = some ⟨oc_load_sums, od_load_sums, .func (PySem.W.fnOf "load_sums" "load_sums" (defArgs s_load_sums) (defBody s_load_sums) (defScope s_load_sums) .none kV_load_sums dc_load_sums pm_load_sums an_load_sums cd_load_sums ct_load_sums), sl_load_sums⟩) (c_load_sums : PySem.W.codeIn K cd_load_sums "load_sums" = true) (k_load_sums : PySem.W.keepIn K (.ref f_load_sums) = true)
    {f_running_sums : Addr} {od_running_sums an_running_sums : Option Addr} {sl_running_sums : Array (Option Value)} {oc_running_sums kV_running_sums dc_running_sums pm_running_sums cd_running_sums ct_running_sums : Value}
    (a_running_sums : PySem.W.nsIn K mainGlobals "running_sums" = some (some (.ref f_running_sums))) (l_running_sums : K.lookup f_running_sums = some ⟨oc_running_sums, od_running_sums, .func (PySem.W.fnOf "running_sums" "running_sums" (defArgs s_running_sums) (defBody s_running_sums) (defScope s_running_sums) .none kV_running_sums dc_running_sums pm_running_sums an_running_sums cd_running_sums ct_running_sums), sl_running_sums⟩) (c_running_sums : PySem.W.codeIn K cd_running_sums "running_sums" = true) (k_running_sums : PySem.W.keepIn K (.ref f_running_sums) = true)
    {f_works_by_root : Addr} {od_works_by_root an_works_by_root : Option Addr} {sl_works_by_root : Array (Option Value)} {oc_works_by_root kV_works_by_root dc_works_by_root pm_works_by_root cd_works_by_root ct_works_by_root : Value}
    (a_works_by_root : PySem.W.nsIn K mainGlobals "works_by_root" = some (some (.ref f_works_by_root))) (l_works_by_root : K.lookup f_works_by_root = some ⟨oc_works_by_root, od_works_by_root, .func (PySem.W.fnOf "works_by_root" "works_by_root" (defArgs s_works_by_root) (defBody s_works_by_root) (defScope s_works_by_root) .none kV_works_by_root dc_works_by_root pm_works_by_root an_works_by_root cd_works_by_root ct_works_by_root), sl_works_by_root⟩) (c_works_by_root : PySem.W.codeIn K cd_works_by_root "works_by_root" = true) (k_works_by_root : PySem.W.keepIn K (.ref f_works_by_root) = true)
    {f_root_cost : Addr} {od_root_cost an_root_cost : Option Addr} {sl_root_cost : Array (Option Value)} {oc_root_cost kV_root_cost dc_root_cost pm_root_cost cd_root_cost ct_root_cost : Value}
    (a_root_cost : PySem.W.nsIn K mainGlobals "root_cost" = some (some (.ref f_root_cost))) (l_root_cost : K.lookup f_root_cost = some ⟨oc_root_cost, od_root_cost, .func (PySem.W.fnOf "root_cost" "root_cost" (defArgs s_root_cost) (defBody s_root_cost) (defScope s_root_cost) .none kV_root_cost dc_root_cost pm_root_cost an_root_cost cd_root_cost ct_root_cost), sl_root_cost⟩) (c_root_cost : PySem.W.codeIn K cd_root_cost "root_cost" = true) (k_root_cost : PySem.W.keepIn K (.ref f_root_cost) = true)
    {f_lifetime : Addr} {od_lifetime an_lifetime : Option Addr} {sl_lifetime : Array (Option Value)} {oc_lifetime kV_lifetime dc_lifetime pm_lifetime cd_lifetime ct_lifetime : Value}
    (a_lifetime : PySem.W.nsIn K mainGlobals "lifetime" = some (some (.ref f_lifetime))) (l_lifetime : K.lookup f_lifetime = some ⟨oc_lifetime, od_lifetime, .func (PySem.W.fnOf "lifetime" "lifetime" (defArgs s_lifetime) (defBody s_lifetime) (defScope s_lifetime) .none kV_lifetime dc_lifetime pm_lifetime an_lifetime cd_lifetime ct_lifetime), sl_lifetime⟩) (c_lifetime : PySem.W.codeIn K cd_lifetime "lifetime" = true) (k_lifetime : PySem.W.keepIn K (.ref f_lifetime) = true)
    {f_choose : Addr} {od_choose an_choose : Option Addr} {sl_choose : Array (Option Value)} {oc_choose kV_choose dc_choose pm_choose cd_choose ct_choose : Value}
    (a_choose : PySem.W.nsIn K mainGlobals "choose" = some (some (.ref f_choose))) (l_choose : K.lookup f_choose = some ⟨oc_choose, od_choose, .func (PySem.W.fnOf "choose" "choose" (defArgs s_choose) (defBody s_choose) (defScope s_choose) .none kV_choose dc_choose pm_choose an_choose cd_choose ct_choose), sl_choose⟩) (c_choose : PySem.W.codeIn K cd_choose "choose" = true) (k_choose : PySem.W.keepIn K (.ref f_choose) = true)
    {f_has_shape : Addr} {od_has_shape an_has_shape : Option Addr} {sl_has_shape : Array (Option Value)} {oc_has_shape kV_has_shape dc_has_shape pm_has_shape cd_has_shape ct_has_shape : Value}
    (a_has_shape : PySem.W.nsIn K mainGlobals "has_shape" = some (some (.ref f_has_shape))) (l_has_shape : K.lookup f_has_shape = some ⟨oc_has_shape, od_has_shape, .func (PySem.W.fnOf "has_shape" "has_shape" (defArgs s_has_shape) (defBody s_has_shape) (defScope s_has_shape) .none kV_has_shape dc_has_shape pm_has_shape an_has_shape cd_has_shape ct_has_shape), sl_has_shape⟩) (c_has_shape : PySem.W.codeIn K cd_has_shape "has_shape" = true) (k_has_shape : PySem.W.keepIn K (.ref f_has_shape) = true)
    {f_intervals : Addr} {od_intervals an_intervals : Option Addr} {sl_intervals : Array (Option Value)} {oc_intervals kV_intervals dc_intervals pm_intervals cd_intervals ct_intervals : Value}
    (a_intervals : PySem.W.nsIn K mainGlobals "intervals" = some (some (.ref f_intervals))) (l_intervals : K.lookup f_intervals = some ⟨oc_intervals, od_intervals, .func (PySem.W.fnOf "intervals" "intervals" (defArgs s_intervals) (defBody s_intervals) (defScope s_intervals) .none kV_intervals dc_intervals pm_intervals an_intervals cd_intervals ct_intervals), sl_intervals⟩) (c_intervals : PySem.W.codeIn K cd_intervals "intervals" = true) (k_intervals : PySem.W.keepIn K (.ref f_intervals) = true)
    {f_is_low : Addr} {od_is_low an_is_low : Option Addr} {sl_is_low : Array (Option Value)} {oc_is_low kV_is_low dc_is_low pm_is_low cd_is_low ct_is_low : Value}
    (a_is_low : PySem.W.nsIn K mainGlobals "is_low" = some (some (.ref f_is_low))) (l_is_low : K.lookup f_is_low = some ⟨oc_is_low, od_is_low, .func (PySem.W.fnOf "is_low" "is_low" (defArgs s_is_low) (defBody s_is_low) (defScope s_is_low) .none kV_is_low dc_is_low pm_is_low an_is_low cd_is_low ct_is_low), sl_is_low⟩) (c_is_low : PySem.W.codeIn K cd_is_low "is_low" = true) (k_is_low : PySem.W.keepIn K (.ref f_is_low) = true)
    {f_check_arguments : Addr} {od_check_arguments an_check_arguments : Option Addr} {sl_check_arguments : Array (Option Value)} {oc_check_arguments kV_check_arguments dc_check_arguments pm_check_arguments cd_check_arguments ct_check_arguments : Value}
    (a_check_arguments : PySem.W.nsIn K mainGlobals "check_arguments" = some (some (.ref f_check_arguments))) (l_check_arguments : K.lookup f_check_arguments = some ⟨oc_check_arguments, od_check_arguments, .func (PySem.W.fnOf "check_arguments" "check_arguments" (defArgs s_check_arguments) (defBody s_check_arguments) (defScope s_check_arguments) .none kV_check_arguments dc_check_arguments pm_check_arguments an_check_arguments cd_check_arguments ct_check_arguments), sl_check_arguments⟩) (c_check_arguments : PySem.W.codeIn K cd_check_arguments "check_arguments" = true) (k_check_arguments : PySem.W.keepIn K (.ref f_check_arguments) = true)
    {f_least_tables : Addr} {od_least_tables an_least_tables : Option Addr} {sl_least_tables : Array (Option Value)} {oc_least_tables kV_least_tables dc_least_tables pm_least_tables cd_least_tables ct_least_tables : Value}
    (a_least_tables : PySem.W.nsIn K mainGlobals "least_tables" = some (some (.ref f_least_tables))) (l_least_tables : K.lookup f_least_tables = some ⟨oc_least_tables, od_least_tables, .func (PySem.W.fnOf "least_tables" "least_tables" (defArgs s_least_tables) (defBody s_least_tables) (defScope s_least_tables) .none kV_least_tables dc_least_tables pm_least_tables an_least_tables cd_least_tables ct_least_tables), sl_least_tables⟩) (c_least_tables : PySem.W.codeIn K cd_least_tables "least_tables" = true) (k_least_tables : PySem.W.keepIn K (.ref f_least_tables) = true)
    {f_rows_without_trees : Addr} {od_rows_without_trees an_rows_without_trees : Option Addr} {sl_rows_without_trees : Array (Option Value)} {oc_rows_without_trees kV_rows_without_trees dc_rows_without_trees pm_rows_without_trees cd_rows_without_trees ct_rows_without_trees : Value}
    (a_rows_without_trees : PySem.W.nsIn K mainGlobals "rows_without_trees" = some (some (.ref f_rows_without_trees))) (l_rows_without_trees : K.lookup f_rows_without_trees = some ⟨oc_rows_without_trees, od_rows_without_trees, .func (PySem.W.fnOf "rows_without_trees" "rows_without_trees" (defArgs s_rows_without_trees) (defBody s_rows_without_trees) (defScope s_rows_without_trees) .none kV_rows_without_trees dc_rows_without_trees pm_rows_without_trees an_rows_without_trees cd_rows_without_trees ct_rows_without_trees), sl_rows_without_trees⟩) (c_rows_without_trees : PySem.W.codeIn K cd_rows_without_trees "rows_without_trees" = true) (k_rows_without_trees : PySem.W.keepIn K (.ref f_rows_without_trees) = true)
    {f_rows_over : Addr} {od_rows_over an_rows_over : Option Addr} {sl_rows_over : Array (Option Value)} {oc_rows_over kV_rows_over dc_rows_over pm_rows_over cd_rows_over ct_rows_over : Value}
    (a_rows_over : PySem.W.nsIn K mainGlobals "rows_over" = some (some (.ref f_rows_over))) (l_rows_over : K.lookup f_rows_over = some ⟨oc_rows_over, od_rows_over, .func (PySem.W.fnOf "rows_over" "rows_over" (defArgs s_rows_over) (defBody s_rows_over) (defScope s_rows_over) .none kV_rows_over dc_rows_over pm_rows_over an_rows_over cd_rows_over ct_rows_over), sl_rows_over⟩) (c_rows_over : PySem.W.codeIn K cd_rows_over "rows_over" = true) (k_rows_over : PySem.W.keepIn K (.ref f_rows_over) = true)
    {f_table_within : Addr} {od_table_within an_table_within : Option Addr} {sl_table_within : Array (Option Value)} {oc_table_within kV_table_within dc_table_within pm_table_within cd_table_within ct_table_within : Value}
    (a_table_within : PySem.W.nsIn K mainGlobals "table_within" = some (some (.ref f_table_within))) (l_table_within : K.lookup f_table_within = some ⟨oc_table_within, od_table_within, .func (PySem.W.fnOf "table_within" "table_within" (defArgs s_table_within) (defBody s_table_within) (defScope s_table_within) .none kV_table_within dc_table_within pm_table_within an_table_within cd_table_within ct_table_within), sl_table_within⟩) (c_table_within : PySem.W.codeIn K cd_table_within "table_within" = true) (k_table_within : PySem.W.keepIn K (.ref f_table_within) = true)
    {f_shows_bound_within : Addr} {od_shows_bound_within an_shows_bound_within : Option Addr} {sl_shows_bound_within : Array (Option Value)} {oc_shows_bound_within kV_shows_bound_within dc_shows_bound_within pm_shows_bound_within cd_shows_bound_within ct_shows_bound_within : Value}
    (a_shows_bound_within : PySem.W.nsIn K mainGlobals "shows_bound_within" = some (some (.ref f_shows_bound_within))) (l_shows_bound_within : K.lookup f_shows_bound_within = some ⟨oc_shows_bound_within, od_shows_bound_within, .func (PySem.W.fnOf "shows_bound_within" "shows_bound_within" (defArgs s_shows_bound_within) (defBody s_shows_bound_within) (defScope s_shows_bound_within) .none kV_shows_bound_within dc_shows_bound_within pm_shows_bound_within an_shows_bound_within cd_shows_bound_within ct_shows_bound_within), sl_shows_bound_within⟩) (c_shows_bound_within : PySem.W.codeIn K cd_shows_bound_within "shows_bound_within" = true) (k_shows_bound_within : PySem.W.keepIn K (.ref f_shows_bound_within) = true)
    {f_is_bound : Addr} {od_is_bound an_is_bound : Option Addr} {sl_is_bound : Array (Option Value)} {oc_is_bound kV_is_bound dc_is_bound pm_is_bound cd_is_bound ct_is_bound : Value}
    (a_is_bound : PySem.W.nsIn K mainGlobals "is_bound" = some (some (.ref f_is_bound))) (l_is_bound : K.lookup f_is_bound = some ⟨oc_is_bound, od_is_bound, .func (PySem.W.fnOf "is_bound" "is_bound" (defArgs s_is_bound) (defBody s_is_bound) (defScope s_is_bound) .none kV_is_bound dc_is_bound pm_is_bound an_is_bound cd_is_bound ct_is_bound), sl_is_bound⟩) (c_is_bound : PySem.W.codeIn K cd_is_bound "is_bound" = true) (k_is_bound : PySem.W.keepIn K (.ref f_is_bound) = true)
    {f_is_grid : Addr} {od_is_grid an_is_grid : Option Addr} {sl_is_grid : Array (Option Value)} {oc_is_grid kV_is_grid dc_is_grid pm_is_grid cd_is_grid ct_is_grid : Value}
    (a_is_grid : PySem.W.nsIn K mainGlobals "is_grid" = some (some (.ref f_is_grid))) (l_is_grid : K.lookup f_is_grid = some ⟨oc_is_grid, od_is_grid, .func (PySem.W.fnOf "is_grid" "is_grid" (defArgs s_is_grid) (defBody s_is_grid) (defScope s_is_grid) .none kV_is_grid dc_is_grid pm_is_grid an_is_grid cd_is_grid ct_is_grid), sl_is_grid⟩) (c_is_grid : PySem.W.codeIn K cd_is_grid "is_grid" = true) (k_is_grid : PySem.W.keepIn K (.ref f_is_grid) = true)
    {f_has_bounds : Addr} {od_has_bounds an_has_bounds : Option Addr} {sl_has_bounds : Array (Option Value)} {oc_has_bounds kV_has_bounds dc_has_bounds pm_has_bounds cd_has_bounds ct_has_bounds : Value}
    (a_has_bounds : PySem.W.nsIn K mainGlobals "has_bounds" = some (some (.ref f_has_bounds))) (l_has_bounds : K.lookup f_has_bounds = some ⟨oc_has_bounds, od_has_bounds, .func (PySem.W.fnOf "has_bounds" "has_bounds" (defArgs s_has_bounds) (defBody s_has_bounds) (defScope s_has_bounds) .none kV_has_bounds dc_has_bounds pm_has_bounds an_has_bounds cd_has_bounds ct_has_bounds), sl_has_bounds⟩) (c_has_bounds : PySem.W.codeIn K cd_has_bounds "has_bounds" = true) (k_has_bounds : PySem.W.keepIn K (.ref f_has_bounds) = true)
    {f_is_table_of : Addr} {od_is_table_of an_is_table_of : Option Addr} {sl_is_table_of : Array (Option Value)} {oc_is_table_of kV_is_table_of dc_is_table_of pm_is_table_of cd_is_table_of ct_is_table_of : Value}
    (a_is_table_of : PySem.W.nsIn K mainGlobals "is_table_of" = some (some (.ref f_is_table_of))) (l_is_table_of : K.lookup f_is_table_of = some ⟨oc_is_table_of, od_is_table_of, .func (PySem.W.fnOf "is_table_of" "is_table_of" (defArgs s_is_table_of) (defBody s_is_table_of) (defScope s_is_table_of) .none kV_is_table_of dc_is_table_of pm_is_table_of an_is_table_of cd_is_table_of ct_is_table_of), sl_is_table_of⟩) (c_is_table_of : PySem.W.codeIn K cd_is_table_of "is_table_of" = true) (k_is_table_of : PySem.W.keepIn K (.ref f_is_table_of) = true)
    {f_L_pot : Addr} {od_L_pot an_L_pot : Option Addr} {sl_L_pot : Array (Option Value)} {oc_L_pot kV_L_pot dc_L_pot pm_L_pot cd_L_pot ct_L_pot : Value}
    (a_L_pot : PySem.W.nsIn K mainGlobals "_law_pot" = some (some (.ref f_L_pot))) (l_L_pot : K.lookup f_L_pot = some ⟨oc_L_pot, od_L_pot, .func (PySem.W.fnOf "_law_pot" "_law_pot" (defArgs s_L_pot) (defBody s_L_pot) (defScope s_L_pot) .none kV_L_pot dc_L_pot pm_L_pot an_L_pot cd_L_pot ct_L_pot), sl_L_pot⟩) (c_L_pot : PySem.W.codeIn K cd_L_pot "_law_pot" = true) (k_L_pot : PySem.W.keepIn K (.ref f_L_pot) = true)
    {f_L_take : Addr} {od_L_take an_L_take : Option Addr} {sl_L_take : Array (Option Value)} {oc_L_take kV_L_take dc_L_take pm_L_take cd_L_take ct_L_take : Value}
    (a_L_take : PySem.W.nsIn K mainGlobals "_law_take" = some (some (.ref f_L_take))) (l_L_take : K.lookup f_L_take = some ⟨oc_L_take, od_L_take, .func (PySem.W.fnOf "_law_take" "_law_take" (defArgs s_L_take) (defBody s_L_take) (defScope s_L_take) .none kV_L_take dc_L_take pm_L_take an_L_take cd_L_take ct_L_take), sl_L_take⟩) (c_L_take : PySem.W.codeIn K cd_L_take "_law_take" = true) (k_L_take : PySem.W.keepIn K (.ref f_L_take) = true)
    {f_L_of : Addr} {od_L_of an_L_of : Option Addr} {sl_L_of : Array (Option Value)} {oc_L_of kV_L_of dc_L_of pm_L_of cd_L_of ct_L_of : Value}
    (a_L_of : PySem.W.nsIn K mainGlobals "_law_of" = some (some (.ref f_L_of))) (l_L_of : K.lookup f_L_of = some ⟨oc_L_of, od_L_of, .func (PySem.W.fnOf "_law_of" "_law_of" (defArgs s_L_of) (defBody s_L_of) (defScope s_L_of) .none kV_L_of dc_L_of pm_L_of an_L_of cd_L_of ct_L_of), sl_L_of⟩) (c_L_of : PySem.W.codeIn K cd_L_of "_law_of" = true) (k_L_of : PySem.W.keepIn K (.ref f_L_of) = true)
    {f_L_load : Addr} {od_L_load an_L_load : Option Addr} {sl_L_load : Array (Option Value)} {oc_L_load kV_L_load dc_L_load pm_L_load cd_L_load ct_L_load : Value}
    (a_L_load : PySem.W.nsIn K mainGlobals "_law_load" = some (some (.ref f_L_load))) (l_L_load : K.lookup f_L_load = some ⟨oc_L_load, od_L_load, .func (PySem.W.fnOf "_law_load" "_law_load" (defArgs s_L_load) (defBody s_L_load) (defScope s_L_load) .none kV_L_load dc_L_load pm_L_load an_L_load cd_L_load ct_L_load), sl_L_load⟩) (c_L_load : PySem.W.codeIn K cd_L_load "_law_load" = true) (k_L_load : PySem.W.keepIn K (.ref f_L_load) = true)
    {f_L_sums : Addr} {od_L_sums an_L_sums : Option Addr} {sl_L_sums : Array (Option Value)} {oc_L_sums kV_L_sums dc_L_sums pm_L_sums cd_L_sums ct_L_sums : Value}
    (a_L_sums : PySem.W.nsIn K mainGlobals "_law_sums" = some (some (.ref f_L_sums))) (l_L_sums : K.lookup f_L_sums = some ⟨oc_L_sums, od_L_sums, .func (PySem.W.fnOf "_law_sums" "_law_sums" (defArgs s_L_sums) (defBody s_L_sums) (defScope s_L_sums) .none kV_L_sums dc_L_sums pm_L_sums an_L_sums cd_L_sums ct_L_sums), sl_L_sums⟩) (c_L_sums : PySem.W.codeIn K cd_L_sums "_law_sums" = true) (k_L_sums : PySem.W.keepIn K (.ref f_L_sums) = true)
    {f_L_odd : Addr} {od_L_odd an_L_odd : Option Addr} {sl_L_odd : Array (Option Value)} {oc_L_odd kV_L_odd dc_L_odd pm_L_odd cd_L_odd ct_L_odd : Value}
    (a_L_odd : PySem.W.nsIn K mainGlobals "_law_odd" = some (some (.ref f_L_odd))) (l_L_odd : K.lookup f_L_odd = some ⟨oc_L_odd, od_L_odd, .func (PySem.W.fnOf "_law_odd" "_law_odd" (defArgs s_L_odd) (defBody s_L_odd) (defScope s_L_odd) .none kV_L_odd dc_L_odd pm_L_odd an_L_odd cd_L_odd ct_L_odd), sl_L_odd⟩) (c_L_odd : PySem.W.codeIn K cd_L_odd "_law_odd" = true) (k_L_odd : PySem.W.keepIn K (.ref f_L_odd) = true)
    {f_L_bent : Addr} {od_L_bent an_L_bent : Option Addr} {sl_L_bent : Array (Option Value)} {oc_L_bent kV_L_bent dc_L_bent pm_L_bent cd_L_bent ct_L_bent : Value}
    (a_L_bent : PySem.W.nsIn K mainGlobals "_law_bent" = some (some (.ref f_L_bent))) (l_L_bent : K.lookup f_L_bent = some ⟨oc_L_bent, od_L_bent, .func (PySem.W.fnOf "_law_bent" "_law_bent" (defArgs s_L_bent) (defBody s_L_bent) (defScope s_L_bent) .none kV_L_bent dc_L_bent pm_L_bent an_L_bent cd_L_bent ct_L_bent), sl_L_bent⟩) (c_L_bent : PySem.W.codeIn K cd_L_bent "_law_bent" = true) (k_L_bent : PySem.W.keepIn K (.ref f_L_bent) = true)
    {f_L_is_int : Addr} {od_L_is_int an_L_is_int : Option Addr} {sl_L_is_int : Array (Option Value)} {oc_L_is_int kV_L_is_int dc_L_is_int pm_L_is_int cd_L_is_int ct_L_is_int : Value}
    (a_L_is_int : PySem.W.nsIn K mainGlobals "_law_is_int" = some (some (.ref f_L_is_int))) (l_L_is_int : K.lookup f_L_is_int = some ⟨oc_L_is_int, od_L_is_int, .func (PySem.W.fnOf "_law_is_int" "_law_is_int" (defArgs s_L_is_int) (defBody s_L_is_int) (defScope s_L_is_int) .none kV_L_is_int dc_L_is_int pm_L_is_int an_L_is_int cd_L_is_int ct_L_is_int), sl_L_is_int⟩) (c_L_is_int : PySem.W.codeIn K cd_L_is_int "_law_is_int" = true) (k_L_is_int : PySem.W.keepIn K (.ref f_L_is_int) = true)
    {f_L_has_shape : Addr} {od_L_has_shape an_L_has_shape : Option Addr} {sl_L_has_shape : Array (Option Value)} {oc_L_has_shape kV_L_has_shape dc_L_has_shape pm_L_has_shape cd_L_has_shape ct_L_has_shape : Value}
    (a_L_has_shape : PySem.W.nsIn K mainGlobals "_law_has_shape" = some (some (.ref f_L_has_shape))) (l_L_has_shape : K.lookup f_L_has_shape = some ⟨oc_L_has_shape, od_L_has_shape, .func (PySem.W.fnOf "_law_has_shape" "_law_has_shape" (defArgs s_L_has_shape) (defBody s_L_has_shape) (defScope s_L_has_shape) .none kV_L_has_shape dc_L_has_shape pm_L_has_shape an_L_has_shape cd_L_has_shape ct_L_has_shape), sl_L_has_shape⟩) (c_L_has_shape : PySem.W.codeIn K cd_L_has_shape "_law_has_shape" = true) (k_L_has_shape : PySem.W.keepIn K (.ref f_L_has_shape) = true)
    {f_L_life : Addr} {od_L_life an_L_life : Option Addr} {sl_L_life : Array (Option Value)} {oc_L_life kV_L_life dc_L_life pm_L_life cd_L_life ct_L_life : Value}
    (a_L_life : PySem.W.nsIn K mainGlobals "_law_life" = some (some (.ref f_L_life))) (l_L_life : K.lookup f_L_life = some ⟨oc_L_life, od_L_life, .func (PySem.W.fnOf "_law_life" "_law_life" (defArgs s_L_life) (defBody s_L_life) (defScope s_L_life) .none kV_L_life dc_L_life pm_L_life an_L_life cd_L_life ct_L_life), sl_L_life⟩) (c_L_life : PySem.W.codeIn K cd_L_life "_law_life" = true) (k_L_life : PySem.W.keepIn K (.ref f_L_life) = true)
    {f_L_has_all_shapes : Addr} {od_L_has_all_shapes an_L_has_all_shapes : Option Addr} {sl_L_has_all_shapes : Array (Option Value)} {oc_L_has_all_shapes kV_L_has_all_shapes dc_L_has_all_shapes pm_L_has_all_shapes cd_L_has_all_shapes ct_L_has_all_shapes : Value}
    (a_L_has_all_shapes : PySem.W.nsIn K mainGlobals "_law_has_all_shapes" = some (some (.ref f_L_has_all_shapes))) (l_L_has_all_shapes : K.lookup f_L_has_all_shapes = some ⟨oc_L_has_all_shapes, od_L_has_all_shapes, .func (PySem.W.fnOf "_law_has_all_shapes" "_law_has_all_shapes" (defArgs s_L_has_all_shapes) (defBody s_L_has_all_shapes) (defScope s_L_has_all_shapes) .none kV_L_has_all_shapes dc_L_has_all_shapes pm_L_has_all_shapes an_L_has_all_shapes cd_L_has_all_shapes ct_L_has_all_shapes), sl_L_has_all_shapes⟩) (c_L_has_all_shapes : PySem.W.codeIn K cd_L_has_all_shapes "_law_has_all_shapes" = true) (k_L_has_all_shapes : PySem.W.keepIn K (.ref f_L_has_all_shapes) = true)
    {f_L_obeys : Addr} {od_L_obeys an_L_obeys : Option Addr} {sl_L_obeys : Array (Option Value)} {oc_L_obeys kV_L_obeys dc_L_obeys pm_L_obeys cd_L_obeys ct_L_obeys : Value}
    (a_L_obeys : PySem.W.nsIn K mainGlobals "_law_obeys" = some (some (.ref f_L_obeys))) (l_L_obeys : K.lookup f_L_obeys = some ⟨oc_L_obeys, od_L_obeys, .func (PySem.W.fnOf "_law_obeys" "_law_obeys" (defArgs s_L_obeys) (defBody s_L_obeys) (defScope s_L_obeys) .none kV_L_obeys dc_L_obeys pm_L_obeys an_L_obeys cd_L_obeys ct_L_obeys), sl_L_obeys⟩) (c_L_obeys : PySem.W.codeIn K cd_L_obeys "_law_obeys" = true) (k_L_obeys : PySem.W.keepIn K (.ref f_L_obeys) = true)
    {f_L_certifies : Addr} {od_L_certifies an_L_certifies : Option Addr} {sl_L_certifies : Array (Option Value)} {oc_L_certifies kV_L_certifies dc_L_certifies pm_L_certifies cd_L_certifies ct_L_certifies : Value}
    (a_L_certifies : PySem.W.nsIn K mainGlobals "_law_certifies" = some (some (.ref f_L_certifies))) (l_L_certifies : K.lookup f_L_certifies = some ⟨oc_L_certifies, od_L_certifies, .func (PySem.W.fnOf "_law_certifies" "_law_certifies" (defArgs s_L_certifies) (defBody s_L_certifies) (defScope s_L_certifies) .none kV_L_certifies dc_L_certifies pm_L_certifies an_L_certifies cd_L_certifies ct_L_certifies), sl_L_certifies⟩) (c_L_certifies : PySem.W.codeIn K cd_L_certifies "_law_certifies" = true) (k_L_certifies : PySem.W.keepIn K (.ref f_L_certifies) = true)
    {f_L_shifted : Addr} {od_L_shifted an_L_shifted : Option Addr} {sl_L_shifted : Array (Option Value)} {oc_L_shifted kV_L_shifted dc_L_shifted pm_L_shifted cd_L_shifted ct_L_shifted : Value}
    (a_L_shifted : PySem.W.nsIn K mainGlobals "_law_shifted" = some (some (.ref f_L_shifted))) (l_L_shifted : K.lookup f_L_shifted = some ⟨oc_L_shifted, od_L_shifted, .func (PySem.W.fnOf "_law_shifted" "_law_shifted" (defArgs s_L_shifted) (defBody s_L_shifted) (defScope s_L_shifted) .none kV_L_shifted dc_L_shifted pm_L_shifted an_L_shifted cd_L_shifted ct_L_shifted), sl_L_shifted⟩) (c_L_shifted : PySem.W.codeIn K cd_L_shifted "_law_shifted" = true) (k_L_shifted : PySem.W.keepIn K (.ref f_L_shifted) = true)
    {f_L_right : Addr} {od_L_right an_L_right : Option Addr} {sl_L_right : Array (Option Value)} {oc_L_right kV_L_right dc_L_right pm_L_right cd_L_right ct_L_right : Value}
    (a_L_right : PySem.W.nsIn K mainGlobals "_law_right" = some (some (.ref f_L_right))) (l_L_right : K.lookup f_L_right = some ⟨oc_L_right, od_L_right, .func (PySem.W.fnOf "_law_right" "_law_right" (defArgs s_L_right) (defBody s_L_right) (defScope s_L_right) .none kV_L_right dc_L_right pm_L_right an_L_right cd_L_right ct_L_right), sl_L_right⟩) (c_L_right : PySem.W.codeIn K cd_L_right "_law_right" = true) (k_L_right : PySem.W.keepIn K (.ref f_L_right) = true)
    {f_law : Addr} {od_law an_law : Option Addr} {sl_law : Array (Option Value)} {oc_law kV_law dc_law pm_law cd_law ct_law : Value}
    (a_law : PySem.W.nsIn K mainGlobals "law" = some (some (.ref f_law))) (l_law : K.lookup f_law = some ⟨oc_law, od_law, .func (PySem.W.fnOf "law" "law" (defArgs s_law) (defBody s_law) (defScope s_law) .none kV_law dc_law pm_law an_law cd_law ct_law), sl_law⟩) (c_law : PySem.W.codeIn K cd_law "law" = true) (k_law : PySem.W.keepIn K (.ref f_law) = true)
    (z_isinstance : PySem.W.nsIn K mainGlobals "isinstance" = some none)
    (z_int : PySem.W.nsIn K mainGlobals "int" = some none)
    (z_bool : PySem.W.nsIn K mainGlobals "bool" = some none)
    (z_all : PySem.W.nsIn K mainGlobals "all" = some none)
    (z_tuple : PySem.W.nsIn K mainGlobals "tuple" = some none)
    (z_len : PySem.W.nsIn K mainGlobals "len" = some none)
    (z_range : PySem.W.nsIn K mainGlobals "range" = some none)
    (z_min : PySem.W.nsIn K mainGlobals "min" = some none)
    (z_enumerate : PySem.W.nsIn K mainGlobals "enumerate" = some none)
    (z_abs : PySem.W.nsIn K mainGlobals "abs" = some none)
    (z_list : PySem.W.nsIn K mainGlobals "list" = some none)
    (z_str : PySem.W.nsIn K mainGlobals "str" = some none)
    (z_repr : PySem.W.nsIn K mainGlobals "repr" = some none)
    {t_MOST_BUDGET : Tok} (y_MOST_BUDGET : PySem.W.nsIn K mainGlobals "MOST_BUDGET" = some (some (.int (60) t_MOST_BUDGET)))
    {t_MOST_LOAD : Tok} (y_MOST_LOAD : PySem.W.nsIn K mainGlobals "MOST_LOAD" = some (some (.int (1000000000) t_MOST_LOAD)))
    {t_MOST_BOUNDED_FLUSHES : Tok} (y_MOST_BOUNDED_FLUSHES : PySem.W.nsIn K mainGlobals "MOST_BOUNDED_FLUSHES" = some (some (.int (14) t_MOST_BOUNDED_FLUSHES)))
    {t_MOST_BOUNDED_BUDGET : Tok} (y_MOST_BOUNDED_BUDGET : PySem.W.nsIn K mainGlobals "MOST_BOUNDED_BUDGET" = some (some (.int (8) t_MOST_BOUNDED_BUDGET)))
    : ∃ fd : FuncData, (∀ (s : Shared) (v : Value), BindsTo s fd ⟨[v], []⟩ [("_law_script", v)]) ∧ ∀ base : Heap, K.In base → base.Ns mainGlobals mg → FnG l.prog w K mg base CX0 66 fa fd ["_law_script"] (sp_law K) := by
  have e := hfa.symm.trans (PySem.W.mg_of X G a_law)
  cases e
  have F_is_int := fun_mk (st := s_is_int) l_is_int c_is_int k_is_int
  have B_is_int := F_is_int.binds (ps := ["value"]) fun _ _ _ _ _ _ us hl => match us, hl with | [_], _ => rfl
  have F_is_count := fun_mk (st := s_is_count) l_is_count c_is_count k_is_count
  have B_is_count := F_is_count.binds (ps := ["value"]) fun _ _ _ _ _ _ us hl => match us, hl with | [_], _ => rfl
  have F_is_count_up_to := fun_mk (st := s_is_count_up_to) l_is_count_up_to c_is_count_up_to k_is_count_up_to
  have B_is_count_up_to := F_is_count_up_to.binds (ps := ["value", "most"]) fun _ _ _ _ _ _ us hl => match us, hl with | [_, _], _ => rfl
  have F_check_budgets := fun_mk (st := s_check_budgets) l_check_budgets c_check_budgets k_check_budgets
  have B_check_budgets := F_check_budgets.binds (ps := ["k", "c", "most"]) fun _ _ _ _ _ _ us hl => match us, hl with | [_, _, _], _ => rfl
  have F_are_loads := fun_mk (st := s_are_loads) l_are_loads c_are_loads k_are_loads
  have B_are_loads := F_are_loads.binds (ps := ["value", "fewest", "most"]) fun _ _ _ _ _ _ us hl => match us, hl with | [_, _, _], _ => rfl
  have F_check_sizes := fun_mk (st := s_check_sizes) l_check_sizes c_check_sizes k_check_sizes
  have B_check_sizes := F_check_sizes.binds (ps := ["sizes", "fewest", "most"]) fun _ _ _ _ _ _ us hl => match us, hl with | [_, _, _], _ => rfl
  have F_check_reads := fun_mk (st := s_check_reads) l_check_reads c_check_reads k_check_reads
  have B_check_reads := F_check_reads.binds (ps := ["reads", "flushes"]) fun _ _ _ _ _ _ us hl => match us, hl with | [_, _], _ => rfl
  have F_check_loads := fun_mk (st := s_check_loads) l_check_loads c_check_loads k_check_loads
  have B_check_loads := F_check_loads.binds (ps := ["sizes", "reads", "most"]) fun _ _ _ _ _ _ us hl => match us, hl with | [_, _, _], _ => rfl
  have F_load_sums := fun_mk (st := s_load_sums) l_load_sums c_load_sums k_load_sums
  have B_load_sums := F_load_sums.binds (ps := ["sizes", "reads"]) fun _ _ _ _ _ _ us hl => match us, hl with | [_, _], _ => rfl
  have F_running_sums := fun_mk (st := s_running_sums) l_running_sums c_running_sums k_running_sums
  have B_running_sums := F_running_sums.binds (ps := ["loads"]) fun _ _ _ _ _ _ us hl => match us, hl with | [_], _ => rfl
  have F_works_by_root := fun_mk (st := s_works_by_root) l_works_by_root c_works_by_root k_works_by_root
  have B_works_by_root := F_works_by_root.binds (ps := ["lefts", "rights", "sums", "start", "stop"]) fun _ _ _ _ _ _ us hl => match us, hl with | [_, _, _, _, _], _ => rfl
  have F_root_cost := fun_mk (st := s_root_cost) l_root_cost c_root_cost k_root_cost
  have B_root_cost := F_root_cost.binds (ps := ["sums", "start", "stop", "root"]) fun _ _ _ _ _ _ us hl => match us, hl with | [_, _, _, _], _ => rfl
  have F_lifetime := fun_mk (st := s_lifetime) l_lifetime c_lifetime k_lifetime
  have B_lifetime := F_lifetime.binds (ps := ["k", "c"]) fun _ _ _ _ _ _ us hl => match us, hl with | [_, _], _ => rfl
  have F_choose := fun_mk (st := s_choose) l_choose c_choose k_choose
  have B_choose := F_choose.binds (ps := ["n", "k"]) fun _ _ _ _ _ _ us hl => match us, hl with | [_, _], _ => rfl
  have F_has_shape := fun_mk (st := s_has_shape) l_has_shape c_has_shape k_has_shape
  have B_has_shape := F_has_shape.binds (ps := ["value", "n"]) fun _ _ _ _ _ _ us hl => match us, hl with | [_, _], _ => rfl
  have F_intervals := fun_mk (st := s_intervals) l_intervals c_intervals k_intervals
  have B_intervals := F_intervals.binds (ps := ["n"]) fun _ _ _ _ _ _ us hl => match us, hl with | [_], _ => rfl
  have F_is_low := fun_mk (st := s_is_low) l_is_low c_is_low k_is_low
  have B_is_low := F_is_low.binds (ps := ["rows", "lefts", "rights", "sums", "start", "stop"]) fun _ _ _ _ _ _ us hl => match us, hl with | [_, _, _, _, _, _], _ => rfl
  have F_check_arguments := fun_mk (st := s_check_arguments) l_check_arguments c_check_arguments k_check_arguments
  have B_check_arguments := F_check_arguments.binds (ps := ["sizes", "reads", "k", "c"]) fun _ _ _ _ _ _ us hl => match us, hl with | [_, _, _, _], _ => rfl
  have F_least_tables := fun_mk (st := s_least_tables) l_least_tables c_least_tables k_least_tables
  have B_least_tables := F_least_tables.binds (ps := ["sizes", "reads", "k", "c"]) fun _ _ _ _ _ _ us hl => match us, hl with | [_, _, _, _], _ => rfl
  have F_rows_without_trees := fun_mk (st := s_rows_without_trees) l_rows_without_trees c_rows_without_trees k_rows_without_trees
  have B_rows_without_trees := F_rows_without_trees.binds (ps := ["n"]) fun _ _ _ _ _ _ us hl => match us, hl with | [_], _ => rfl
  have F_rows_over := fun_mk (st := s_rows_over) l_rows_over c_rows_over k_rows_over
  have B_rows_over := F_rows_over.binds (ps := ["lefts", "rights", "sums", "n"]) fun _ _ _ _ _ _ us hl => match us, hl with | [_, _, _, _], _ => rfl
  have F_table_within := fun_mk (st := s_table_within) l_table_within c_table_within k_table_within
  have B_table_within := F_table_within.binds (ps := ["sizes", "reads", "k", "c"]) fun _ _ _ _ _ _ us hl => match us, hl with | [_, _, _, _], _ => rfl
  have F_shows_bound_within := fun_mk (st := s_shows_bound_within) l_shows_bound_within c_shows_bound_within k_shows_bound_within
  have B_shows_bound_within := F_shows_bound_within.binds (ps := ["sizes", "reads", "k", "c", "bound", "value"]) fun _ _ _ _ _ _ us hl => match us, hl with | [_, _, _, _, _, _], _ => rfl
  have F_is_bound := fun_mk (st := s_is_bound) l_is_bound c_is_bound k_is_bound
  have B_is_bound := F_is_bound.binds (ps := ["value"]) fun _ _ _ _ _ _ us hl => match us, hl with | [_], _ => rfl
  have F_is_grid := fun_mk (st := s_is_grid) l_is_grid c_is_grid k_is_grid
  have B_is_grid := F_is_grid.binds (ps := ["value", "k", "c"]) fun _ _ _ _ _ _ us hl => match us, hl with | [_, _, _], _ => rfl
  have F_has_bounds := fun_mk (st := s_has_bounds) l_has_bounds c_has_bounds k_has_bounds
  have B_has_bounds := F_has_bounds.binds (ps := ["value", "n", "longest"]) fun _ _ _ _ _ _ us hl => match us, hl with | [_, _, _], _ => rfl
  have F_is_table_of := fun_mk (st := s_is_table_of) l_is_table_of c_is_table_of k_is_table_of
  have B_is_table_of := F_is_table_of.binds (ps := ["tables", "sums", "b", "a", "n"]) fun _ _ _ _ _ _ us hl => match us, hl with | [_, _, _, _, _], _ => rfl
  have F_L_pot := fun_mk (st := s_L_pot) l_L_pot c_L_pot k_L_pot
  have B_L_pot := F_L_pot.binds (ps := ["_law_script", "_law_k"]) fun _ _ _ _ _ _ us hl => match us, hl with | [_, _], _ => rfl
  have F_L_take := fun_mk (st := s_L_take) l_L_take c_L_take k_L_take
  have B_L_take := F_L_take.binds (ps := ["_law_pot_here", "_law_wide"]) fun _ _ _ _ _ _ us hl => match us, hl with | [_, _], _ => rfl
  have F_L_of := fun_mk (st := s_L_of) l_L_of c_L_of k_L_of
  have B_L_of := F_L_of.binds (ps := ["_law_pot_here", "_law_some"]) fun _ _ _ _ _ _ us hl => match us, hl with | [_, _], _ => rfl
  have F_L_load := fun_mk (st := s_L_load) l_L_load c_L_load k_L_load
  have B_L_load := F_L_load.binds (ps := ["_law_pot_here", "_law_count", "_law_wide"]) fun _ _ _ _ _ _ us hl => match us, hl with | [_, _, _], _ => rfl
  have F_L_sums := fun_mk (st := s_L_sums) l_L_sums c_L_sums k_L_sums
  have B_L_sums := F_L_sums.binds (ps := ["_law_some"]) fun _ _ _ _ _ _ us hl => match us, hl with | [_], _ => rfl
  have F_L_odd := fun_mk (st := s_L_odd) l_L_odd c_L_odd k_L_odd
  have B_L_odd := F_L_odd.binds (ps := ["_law_pot_here"]) fun _ _ _ _ _ _ us hl => match us, hl with | [_], _ => rfl
  have F_L_bent := fun_mk (st := s_L_bent) l_L_bent c_L_bent k_L_bent
  have B_L_bent := F_L_bent.binds (ps := ["_law_pot_here", "_law_thing"]) fun _ _ _ _ _ _ us hl => match us, hl with | [_, _], _ => rfl
  have F_L_is_int := fun_mk (st := s_L_is_int) l_L_is_int c_L_is_int k_L_is_int
  have B_L_is_int := F_L_is_int.binds (ps := ["_law_thing"]) fun _ _ _ _ _ _ us hl => match us, hl with | [_], _ => rfl
  have F_L_has_shape := fun_mk (st := s_L_has_shape) l_L_has_shape c_L_has_shape k_L_has_shape
  have B_L_has_shape := F_L_has_shape.binds (ps := ["_law_count", "_law_thing"]) fun _ _ _ _ _ _ us hl => match us, hl with | [_, _], _ => rfl
  have F_L_life := fun_mk (st := s_L_life) l_L_life c_L_life k_L_life
  have B_L_life := F_L_life.binds (ps := ["_law_k", "_law_c"]) fun _ _ _ _ _ _ us hl => match us, hl with | [_, _], _ => rfl
  have F_L_has_all_shapes := fun_mk (st := s_L_has_all_shapes) l_L_has_all_shapes c_L_has_all_shapes k_L_has_all_shapes
  have B_L_has_all_shapes := F_L_has_all_shapes.binds (ps := ["_law_count", "_law_k", "_law_c", "_law_thing"]) fun _ _ _ _ _ _ us hl => match us, hl with | [_, _, _, _], _ => rfl
  have F_L_obeys := fun_mk (st := s_L_obeys) l_L_obeys c_L_obeys k_L_obeys
  have B_L_obeys := F_L_obeys.binds (ps := ["_law_bulk", "_law_looks", "_law_thing", "_law_b", "_law_a"]) fun _ _ _ _ _ _ us hl => match us, hl with | [_, _, _, _, _], _ => rfl
  have F_L_certifies := fun_mk (st := s_L_certifies) l_L_certifies c_L_certifies k_L_certifies
  have B_L_certifies := F_L_certifies.binds (ps := ["_law_bulk", "_law_looks", "_law_k", "_law_c", "_law_thing"]) fun _ _ _ _ _ _ us hl => match us, hl with | [_, _, _, _, _], _ => rfl
  have F_L_shifted := fun_mk (st := s_L_shifted) l_L_shifted c_L_shifted k_L_shifted
  have B_L_shifted := F_L_shifted.binds (ps := ["_law_pot_here", "_law_thing", "_law_by"]) fun _ _ _ _ _ _ us hl => match us, hl with | [_, _, _], _ => rfl
  have F_L_right := fun_mk (st := s_L_right) l_L_right c_L_right k_L_right
  have B_L_right := F_L_right.binds (ps := ["_law_pot_here"]) fun _ _ _ _ _ _ us hl => match us, hl with | [_], _ => rfl
  have F_law := fun_mk (st := s_law) l_law c_law k_law
  have B_law := F_law.binds (ps := ["_law_script"]) fun _ _ _ _ _ _ us hl => match us, hl with | [_], _ => rfl
  let TX : Tx K mg := ⟨_, _, F_is_int, PySem.W.mg_of X G a_is_int, B_is_int, _, _, F_is_count, PySem.W.mg_of X G a_is_count, B_is_count, _, _, F_is_count_up_to, PySem.W.mg_of X G a_is_count_up_to, B_is_count_up_to, _, _, F_check_budgets, PySem.W.mg_of X G a_check_budgets, B_check_budgets, _, _, F_are_loads, PySem.W.mg_of X G a_are_loads, B_are_loads, _, _, F_check_sizes, PySem.W.mg_of X G a_check_sizes, B_check_sizes, _, _, F_check_reads, PySem.W.mg_of X G a_check_reads, B_check_reads, _, _, F_check_loads, PySem.W.mg_of X G a_check_loads, B_check_loads, _, _, F_load_sums, PySem.W.mg_of X G a_load_sums, B_load_sums, _, _, F_running_sums, PySem.W.mg_of X G a_running_sums, B_running_sums, _, _, F_works_by_root, PySem.W.mg_of X G a_works_by_root, B_works_by_root, _, _, F_root_cost, PySem.W.mg_of X G a_root_cost, B_root_cost, _, _, F_lifetime, PySem.W.mg_of X G a_lifetime, B_lifetime, _, _, F_choose, PySem.W.mg_of X G a_choose, B_choose, _, _, F_has_shape, PySem.W.mg_of X G a_has_shape, B_has_shape, _, _, F_intervals, PySem.W.mg_of X G a_intervals, B_intervals, _, _, F_is_low, PySem.W.mg_of X G a_is_low, B_is_low, _, _, F_check_arguments, PySem.W.mg_of X G a_check_arguments, B_check_arguments, _, _, F_least_tables, PySem.W.mg_of X G a_least_tables, B_least_tables, _, _, F_rows_without_trees, PySem.W.mg_of X G a_rows_without_trees, B_rows_without_trees, _, _, F_rows_over, PySem.W.mg_of X G a_rows_over, B_rows_over, _, _, F_table_within, PySem.W.mg_of X G a_table_within, B_table_within, _, _, F_shows_bound_within, PySem.W.mg_of X G a_shows_bound_within, B_shows_bound_within, _, _, F_is_bound, PySem.W.mg_of X G a_is_bound, B_is_bound, _, _, F_is_grid, PySem.W.mg_of X G a_is_grid, B_is_grid, _, _, F_has_bounds, PySem.W.mg_of X G a_has_bounds, B_has_bounds, _, _, F_is_table_of, PySem.W.mg_of X G a_is_table_of, B_is_table_of, _, _, F_L_pot, PySem.W.mg_of X G a_L_pot, B_L_pot, _, _, F_L_take, PySem.W.mg_of X G a_L_take, B_L_take, _, _, F_L_of, PySem.W.mg_of X G a_L_of, B_L_of, _, _, F_L_load, PySem.W.mg_of X G a_L_load, B_L_load, _, _, F_L_sums, PySem.W.mg_of X G a_L_sums, B_L_sums, _, _, F_L_odd, PySem.W.mg_of X G a_L_odd, B_L_odd, _, _, F_L_bent, PySem.W.mg_of X G a_L_bent, B_L_bent, _, _, F_L_is_int, PySem.W.mg_of X G a_L_is_int, B_L_is_int, _, _, F_L_has_shape, PySem.W.mg_of X G a_L_has_shape, B_L_has_shape, _, _, F_L_life, PySem.W.mg_of X G a_L_life, B_L_life, _, _, F_L_has_all_shapes, PySem.W.mg_of X G a_L_has_all_shapes, B_L_has_all_shapes, _, _, F_L_obeys, PySem.W.mg_of X G a_L_obeys, B_L_obeys, _, _, F_L_certifies, PySem.W.mg_of X G a_L_certifies, B_L_certifies, _, _, F_L_shifted, PySem.W.mg_of X G a_L_shifted, B_L_shifted, _, _, F_L_right, PySem.W.mg_of X G a_L_right, B_L_right, _, _, F_law, PySem.W.mg_of X G a_law, B_law, PySem.W.mg_none_of X G z_isinstance, PySem.W.mg_none_of X G z_int, PySem.W.mg_none_of X G z_bool, PySem.W.mg_none_of X G z_all, PySem.W.mg_none_of X G z_tuple, PySem.W.mg_none_of X G z_len, PySem.W.mg_none_of X G z_range, PySem.W.mg_none_of X G z_min, PySem.W.mg_none_of X G z_enumerate, PySem.W.mg_none_of X G z_abs, PySem.W.mg_none_of X G z_list, PySem.W.mg_none_of X G z_str, PySem.W.mg_none_of X G z_repr, _, PySem.W.mg_of X G y_MOST_BUDGET, _, PySem.W.mg_of X G y_MOST_LOAD, _, PySem.W.mg_of X G y_MOST_BOUNDED_FLUSHES, _, PySem.W.mg_of X G y_MOST_BOUNDED_BUDGET⟩
  exact ⟨TX.fd_law, fun s v => .of_eq rfl, fun base _ _ => ok_law TX⟩
end MB
open PySem PySem.W PyProof.Rows
set_option maxHeartbeats 0 in
theorem PySem.Challenge.cw_mergebudget_k44_bounds_within_of_any_kin_holds : PySem.Challenge.rw_mergebudget_k44_bounds_within_of_any_kin.Holds := by
  w_on; o_law; k_head; (case hw => w_witness2)
  k_fill
  refine MB.walk_ofS (l := PySem.Challenge.rw_mergebudget_k44_bounds_within_of_any_kin) (n := 63) (k := 66) (x := "_law_script") (sp := MB.sp_law) rfl (by decide) rfl ⟨rfl, by decide, by decide⟩ (by decide +kernel) ?KS (fun w h Y => PySem.W.kIn_of Y) ?F (fun _ _ a ns o hl hS hy => ⟨a, ns, o, rfl, hS, hl, hy, fun _ => rfl⟩)
  case F =>
    intro w mg fa h KX G hmg
    refine' MB.all_mk KX G hmg ?a_is_int ?l_is_int ?c_is_int ?k_is_int ?a_is_count ?l_is_count ?c_is_count ?k_is_count ?a_is_count_up_to ?l_is_count_up_to ?c_is_count_up_to ?k_is_count_up_to ?a_check_budgets ?l_check_budgets ?c_check_budgets ?k_check_budgets ?a_are_loads ?l_are_loads ?c_are_loads ?k_are_loads ?a_check_sizes ?l_check_sizes ?c_check_sizes ?k_check_sizes ?a_check_reads ?l_check_reads ?c_check_reads ?k_check_reads ?a_check_loads ?l_check_loads ?c_check_loads ?k_check_loads ?a_load_sums ?l_load_sums ?c_load_sums ?k_load_sums ?a_running_sums ?l_running_sums ?c_running_sums ?k_running_sums ?a_works_by_root ?l_works_by_root ?c_works_by_root ?k_works_by_root ?a_root_cost ?l_root_cost ?c_root_cost ?k_root_cost ?a_lifetime ?l_lifetime ?c_lifetime ?k_lifetime ?a_choose ?l_choose ?c_choose ?k_choose ?a_has_shape ?l_has_shape ?c_has_shape ?k_has_shape ?a_intervals ?l_intervals ?c_intervals ?k_intervals ?a_is_low ?l_is_low ?c_is_low ?k_is_low ?a_check_arguments ?l_check_arguments ?c_check_arguments ?k_check_arguments ?a_least_tables ?l_least_tables ?c_least_tables ?k_least_tables ?a_rows_without_trees ?l_rows_without_trees ?c_rows_without_trees ?k_rows_without_trees ?a_rows_over ?l_rows_over ?c_rows_over ?k_rows_over ?a_table_within ?l_table_within ?c_table_within ?k_table_within ?a_shows_bound_within ?l_shows_bound_within ?c_shows_bound_within ?k_shows_bound_within ?a_is_bound ?l_is_bound ?c_is_bound ?k_is_bound ?a_is_grid ?l_is_grid ?c_is_grid ?k_is_grid ?a_has_bounds ?l_has_bounds ?c_has_bounds ?k_has_bounds ?a_is_table_of ?l_is_table_of ?c_is_table_of ?k_is_table_of ?a_L_pot ?l_L_pot ?c_L_pot ?k_L_pot ?a_L_take ?l_L_take ?c_L_take ?k_L_take ?a_L_of ?l_L_of ?c_L_of ?k_L_of ?a_L_load ?l_L_load ?c_L_load ?k_L_load ?a_L_sums ?l_L_sums ?c_L_sums ?k_L_sums ?a_L_odd ?l_L_odd ?c_L_odd ?k_L_odd ?a_L_bent ?l_L_bent ?c_L_bent ?k_L_bent ?a_L_is_int ?l_L_is_int ?c_L_is_int ?k_L_is_int ?a_L_has_shape ?l_L_has_shape ?c_L_has_shape ?k_L_has_shape ?a_L_life ?l_L_life ?c_L_life ?k_L_life ?a_L_has_all_shapes ?l_L_has_all_shapes ?c_L_has_all_shapes ?k_L_has_all_shapes ?a_L_obeys ?l_L_obeys ?c_L_obeys ?k_L_obeys ?a_L_certifies ?l_L_certifies ?c_L_certifies ?k_L_certifies ?a_L_shifted ?l_L_shifted ?c_L_shifted ?k_L_shifted ?a_L_right ?l_L_right ?c_L_right ?k_L_right ?a_law ?l_law ?c_law ?k_law ?z_isinstance ?z_int ?z_bool ?z_all ?z_tuple ?z_len ?z_range ?z_min ?z_enumerate ?z_abs ?z_list ?z_str ?z_repr ?y_MOST_BUDGET ?y_MOST_LOAD ?y_MOST_BOUNDED_FLUSHES ?y_MOST_BOUNDED_BUDGET
    (case a_is_int => k_is); (case l_is_int => k_is); (case c_is_int => k_is); (case k_is_int => k_is); (case a_is_count => k_is); (case l_is_count => k_is); (case c_is_count => k_is); (case k_is_count => k_is); (case a_is_count_up_to => k_is); (case l_is_count_up_to => k_is); (case c_is_count_up_to => k_is); (case k_is_count_up_to => k_is); (case a_check_budgets => k_is); (case l_check_budgets => k_is); (case c_check_budgets => k_is); (case k_check_budgets => k_is); (case a_are_loads => k_is); (case l_are_loads => k_is); (case c_are_loads => k_is); (case k_are_loads => k_is); (case a_check_sizes => k_is); (case l_check_sizes => k_is); (case c_check_sizes => k_is); (case k_check_sizes => k_is); (case a_check_reads => k_is); (case l_check_reads => k_is); (case c_check_reads => k_is); (case k_check_reads => k_is); (case a_check_loads => k_is); (case l_check_loads => k_is); (case c_check_loads => k_is); (case k_check_loads => k_is); (case a_load_sums => k_is); (case l_load_sums => k_is); (case c_load_sums => k_is); (case k_load_sums => k_is); (case a_running_sums => k_is); (case l_running_sums => k_is); (case c_running_sums => k_is); (case k_running_sums => k_is); (case a_works_by_root => k_is); (case l_works_by_root => k_is); (case c_works_by_root => k_is); (case k_works_by_root => k_is); (case a_root_cost => k_is); (case l_root_cost => k_is); (case c_root_cost => k_is); (case k_root_cost => k_is); (case a_lifetime => k_is); (case l_lifetime => k_is); (case c_lifetime => k_is); (case k_lifetime => k_is); (case a_choose => k_is); (case l_choose => k_is); (case c_choose => k_is); (case k_choose => k_is); (case a_has_shape => k_is); (case l_has_shape => k_is); (case c_has_shape => k_is); (case k_has_shape => k_is); (case a_intervals => k_is); (case l_intervals => k_is); (case c_intervals => k_is); (case k_intervals => k_is); (case a_is_low => k_is); (case l_is_low => k_is); (case c_is_low => k_is); (case k_is_low => k_is); (case a_check_arguments => k_is); (case l_check_arguments => k_is); (case c_check_arguments => k_is); (case k_check_arguments => k_is); (case a_least_tables => k_is); (case l_least_tables => k_is); (case c_least_tables => k_is); (case k_least_tables => k_is); (case a_rows_without_trees => k_is); (case l_rows_without_trees => k_is); (case c_rows_without_trees => k_is); (case k_rows_without_trees => k_is); (case a_rows_over => k_is); (case l_rows_over => k_is); (case c_rows_over => k_is); (case k_rows_over => k_is); (case a_table_within => k_is); (case l_table_within => k_is); (case c_table_within => k_is); (case k_table_within => k_is); (case a_shows_bound_within => k_is); (case l_shows_bound_within => k_is); (case c_shows_bound_within => k_is); (case k_shows_bound_within => k_is); (case a_is_bound => k_is); (case l_is_bound => k_is); (case c_is_bound => k_is); (case k_is_bound => k_is); (case a_is_grid => k_is); (case l_is_grid => k_is); (case c_is_grid => k_is); (case k_is_grid => k_is); (case a_has_bounds => k_is); (case l_has_bounds => k_is); (case c_has_bounds => k_is); (case k_has_bounds => k_is); (case a_is_table_of => k_is); (case l_is_table_of => k_is); (case c_is_table_of => k_is); (case k_is_table_of => k_is); (case a_L_pot => k_is); (case l_L_pot => k_is); (case c_L_pot => k_is); (case k_L_pot => k_is); (case a_L_take => k_is); (case l_L_take => k_is); (case c_L_take => k_is); (case k_L_take => k_is); (case a_L_of => k_is); (case l_L_of => k_is); (case c_L_of => k_is); (case k_L_of => k_is); (case a_L_load => k_is); (case l_L_load => k_is); (case c_L_load => k_is); (case k_L_load => k_is); (case a_L_sums => k_is); (case l_L_sums => k_is); (case c_L_sums => k_is); (case k_L_sums => k_is); (case a_L_odd => k_is); (case l_L_odd => k_is); (case c_L_odd => k_is); (case k_L_odd => k_is); (case a_L_bent => k_is); (case l_L_bent => k_is); (case c_L_bent => k_is); (case k_L_bent => k_is); (case a_L_is_int => k_is); (case l_L_is_int => k_is); (case c_L_is_int => k_is); (case k_L_is_int => k_is); (case a_L_has_shape => k_is); (case l_L_has_shape => k_is); (case c_L_has_shape => k_is); (case k_L_has_shape => k_is); (case a_L_life => k_is); (case l_L_life => k_is); (case c_L_life => k_is); (case k_L_life => k_is); (case a_L_has_all_shapes => k_is); (case l_L_has_all_shapes => k_is); (case c_L_has_all_shapes => k_is); (case k_L_has_all_shapes => k_is); (case a_L_obeys => k_is); (case l_L_obeys => k_is); (case c_L_obeys => k_is); (case k_L_obeys => k_is); (case a_L_certifies => k_is); (case l_L_certifies => k_is); (case c_L_certifies => k_is); (case k_L_certifies => k_is); (case a_L_shifted => k_is); (case l_L_shifted => k_is); (case c_L_shifted => k_is); (case k_L_shifted => k_is); (case a_L_right => k_is); (case l_L_right => k_is); (case c_L_right => k_is); (case k_L_right => k_is); (case a_law => k_is); (case l_law => k_is); (case c_law => k_is); (case k_law => k_is); (case z_isinstance => k_is); (case z_int => k_is); (case z_bool => k_is); (case z_all => k_is); (case z_tuple => k_is); (case z_len => k_is); (case z_range => k_is); (case z_min => k_is); (case z_enumerate => k_is); (case z_abs => k_is); (case z_list => k_is); (case z_str => k_is); (case z_repr => k_is); (case y_MOST_BUDGET => k_is); (case y_MOST_LOAD => k_is); (case y_MOST_BOUNDED_FLUSHES => k_is); (case y_MOST_BOUNDED_BUDGET => k_is)
  case KS => exact fun p => by first | rfl | decide +kernel | k_is
