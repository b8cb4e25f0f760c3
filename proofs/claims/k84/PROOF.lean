import PyProof.Rows.All
import Wide.All
import OpenK.AllK
import Wide.FinOn
import HandS.ForMost
import HandS.IsInst
import HandS.Wide
import HandS.TupAny
import HandS.TupMul
import HandS.Rev
import HandS.Style
import HandS.Strs
import HandS.Walk
import KE.GoesEnum
import PyProof.ReprRoads
import PyProof.ReprBulk
import HandS.WideMore
import HandS.Conv
import HandS.SortKw
import HandS.SortInts
import KE.DataMinMax
import KE.DatumOrd
import HandS.RevRange
import HandS.Zip
import KE.GoesZip
import KE.GoesMore
import HandS.List
import HandS.Dict
import HandS.TupSets
import KE.KDictPairs
import KE.KSortTupG
import KE.KDictWalk
import KE.KDictSum
import PySem.Challenge.RW_mergebudget_k84_whole_mirrored_problems
set_option Elab.async false
set_option linter.all false
set_option maxRecDepth 100000
namespace MB
inductive T where
  | nil
  | node (l r : T)
  deriving DecidableEq

namespace T
def size : T → Nat
  | nil => 0
  | node l r => l.size + 1 + r.size
def runs : T → Nat
  | nil => 0
  | node _ r => 1 + r.runs
def sch : T → List Nat
  | nil => []
  | node l r => l.sch ++ l.runs :: r.sch
def rc : T → List Nat
  | nil => []
  | node l r => l.rc ++ 1 :: r.rc.map (· + 1)
def wr : T → List Nat
  | nil => []
  | node l r => l.wr.map (· + 1) ++ 1 :: r.wr
/-- parents: off, the number of the first node; p, the parent of the root -/
def par (off p : Int) : T → List Int
  | nil => []
  | node l r => par off (off + l.size) l ++ p :: par (off + l.size + 1) (off + l.size) r
def mir : T → T
  | nil => nil
  | node l r => node r.mir l.mir
def push (t : T) (m : Nat) : T :=
  if m = t.runs then node t nil else match t with
    | nil => nil
    | node l r => node l (push r m)
/-- the first flush of the run that a flush that merges m writes -/
def start (t : T) (m : Nat) : Nat :=
  if m = t.runs then 0 else match t with
    | nil => 0
    | node l r => l.size + 1 + start r m
/-- the stack: intervals of the right spine -/
def stk (off : Nat) : T → List (Nat × Nat)
  | nil => []
  | node l r => (off, off + l.size + 1) :: stk (off + l.size + 1) r
def graft : T → T → T
  | nil, t => t
  | node l r, t => node l (graft r t)

theorem sch_len : ∀ t : T, t.sch.length = t.size
  | nil => rfl
  | node l r => by simp [sch, size, sch_len l, sch_len r]; omega
theorem rc_len : ∀ t : T, t.rc.length = t.size
  | nil => rfl
  | node l r => by simp [rc, size, rc_len l, rc_len r]; omega
theorem wr_len : ∀ t : T, t.wr.length = t.size
  | nil => rfl
  | node l r => by simp [wr, size, wr_len l, wr_len r]; omega
theorem par_len : ∀ (t : T) (off p : Int), (t.par off p).length = t.size
  | nil, _, _ => rfl
  | node l r, off, p => by simp [par, size, par_len l, par_len r]; omega
theorem runs_le : ∀ t : T, t.runs ≤ t.size
  | nil => Nat.le_refl _
  | node l r => by have := runs_le r; simp [runs, size]; omega
theorem sum_sch : ∀ t : T, t.sch.sum + t.runs = t.size
  | nil => rfl
  | node l r => by
    have h1 := sum_sch l; have h2 := sum_sch r
    simp [sch, runs, size, List.sum_append]; omega
theorem stk_len : ∀ (t : T) (off : Nat), (t.stk off).length = t.runs
  | nil, _ => rfl
  | node l r, off => by simp [stk, runs, stk_len r]; omega

/-! ### push -/
theorem push_eq {t : T} : t.push t.runs = node t nil := by
  unfold push; rw [if_pos rfl]
theorem push_node {l r : T} {m : Nat} (h : m ≤ r.runs) : (node l r).push m = node l (r.push m) := by
  conv => lhs; unfold push
  rw [if_neg (by simp [runs]; omega)]
theorem start_eq {t : T} : t.start t.runs = 0 := by
  unfold start; rw [if_pos rfl]
theorem start_node {l r : T} {m : Nat} (h : m ≤ r.runs) : (node l r).start m = l.size + 1 + r.start m := by
  conv => lhs; unfold start
  rw [if_neg (by simp [runs]; omega)]
/-- the two ways of a push -/
theorem push_ind {C : T → Nat → Prop} (h1 : ∀ t, C t t.runs) (h2 : ∀ l r m, m ≤ r.runs → C r m → C (node l r) m) : ∀ (t : T) (m : Nat), m ≤ t.runs → C t m
  | nil, m, h => by
    have : m = nil.runs := by simp [runs] at h ⊢; omega
    rw [this]; exact h1 nil
  | node l r, m, h => by
    by_cases e : m = (node l r).runs
    · rw [e]; exact h1 _
    · have hm : m ≤ r.runs := by simp [runs] at h e; omega
      exact h2 l r m hm (push_ind h1 h2 r m hm)
theorem push_sch : ∀ (t : T) (m : Nat), m ≤ t.runs → (t.push m).sch = t.sch ++ [m] :=
  push_ind (fun t => by rw [push_eq]; simp [sch]) fun l r m h ih => by rw [push_node h]; simp [sch, ih]
theorem push_size : ∀ (t : T) (m : Nat), m ≤ t.runs → (t.push m).size = t.size + 1 :=
  push_ind (fun t => by rw [push_eq]; simp [size]) fun l r m h ih => by rw [push_node h]; simp [size, ih]; omega
theorem push_runs : ∀ (t : T) (m : Nat), m ≤ t.runs → (t.push m).runs = t.runs - m + 1 :=
  push_ind (fun t => by rw [push_eq]; simp [runs]) fun l r m h ih => by rw [push_node h]; simp [runs, ih]; omega
theorem push_rc : ∀ (t : T) (m : Nat), m ≤ t.runs → (t.push m).rc = t.rc ++ [t.runs - m + 1] :=
  push_ind (fun t => by rw [push_eq]; simp [rc]) fun l r m h ih => by
    rw [push_node h]; simp [rc, ih, runs]; omega
theorem start_le : ∀ (t : T) (m : Nat), m ≤ t.runs → t.start m ≤ t.size :=
  push_ind (fun t => by rw [start_eq]; omega) fun l r m h ih => by rw [start_node h]; simp [size]; omega
theorem push_wr : ∀ (t : T) (m : Nat), m ≤ t.runs → (t.push m).wr = t.wr.take (t.start m) ++ ((t.wr.drop (t.start m)).map (· + 1) ++ [1]) :=
  push_ind (fun t => by rw [push_eq, start_eq]; simp [wr]) fun l r m h ih => by
    rw [push_node h, start_node h]
    have e : (wr (node l r)) = (l.wr.map (· + 1) ++ [1]) ++ r.wr := by simp [wr]
    have el : (l.wr.map (· + 1) ++ [1]).length = l.size + 1 := by simp [wr_len]
    rw [e, List.take_append, List.drop_append, el]
    rw [List.take_of_length_le (by rw [el]; omega), List.drop_eq_nil_of_le (by rw [el]; omega)]
    rw [show l.size + 1 + r.start m - (l.size + 1) = r.start m by omega]
    simp [wr, ih]
theorem stk_push : ∀ (t : T) (m : Nat), m ≤ t.runs → ∀ off, (t.push m).stk off = (t.stk off).take (t.runs - m) ++ [(off + t.start m, off + t.size + 1)] :=
  push_ind (fun t off => by rw [push_eq, start_eq]; simp [stk]) fun l r m h ih off => by
    rw [push_node h, start_node h]
    have hh : (node l r).runs - m = (r.runs - m) + 1 := by simp [runs]; omega
    rw [hh]
    simp [stk, ih, size]
    omega
theorem stk_at : ∀ (t : T) (m : Nat), m ≤ t.runs → ∀ off, 0 < m → ∃ e, (t.stk off)[t.runs - m]? = some (off + t.start m, e) :=
  push_ind (fun t off h => by
      rw [start_eq, Nat.sub_self]
      cases t with
      | nil => simp [runs] at h
      | node l r => exact ⟨_, rfl⟩) fun l r m h ih off h0 => by
    rw [start_node h]
    have hh : (node l r).runs - m = (r.runs - m) + 1 := by simp [runs]; omega
    rw [hh]
    obtain ⟨e, he⟩ := ih (off + l.size + 1) h0
    refine ⟨e, ?_⟩
    simp only [stk, List.getElem?_cons_succ, he]
    congr 2; omega
theorem start_zero : ∀ (t : T) (m : Nat), m ≤ t.runs → m = 0 → t.start m = t.size :=
  push_ind (fun t h => by
      rw [start_eq]
      cases t with
      | nil => rfl
      | node l r => simp [runs] at h) fun l r m h ih h0 => by
    rw [start_node h, ih h0]; simp [size]

/-! ### schedules and trees -/
theorem graft_nil : ∀ t : T, t.graft nil = t
  | nil => rfl
  | node l r => by simp [graft, graft_nil r]
theorem graft_assoc : ∀ a b c : T, (a.graft b).graft c = a.graft (b.graft c)
  | nil, _, _ => rfl
  | node l r, b, c => by simp [graft, graft_assoc r b c]
theorem graft_runs : ∀ a b : T, (a.graft b).runs = a.runs + b.runs
  | nil, b => by simp [graft, runs]
  | node l r, b => by simp [graft, runs, graft_runs r b]; omega
theorem graft_push : ∀ (u l : T), (u.graft l).push l.runs = u.graft (node l nil)
  | nil, l => by simp [graft, push_eq]
  | node a b, l => by
    simp only [graft]
    rw [push_node (by rw [graft_runs]; omega), graft_push b l]
theorem foldl_sch : ∀ (t u : T), t.sch.foldl push u = u.graft t
  | nil, u => by simp [sch, graft_nil]
  | node l r, u => by
    simp only [sch, List.foldl_append, List.foldl_cons]
    rw [foldl_sch l u, graft_push, foldl_sch r, graft_assoc]
    rfl
theorem sch_inj {a b : T} (h : a.sch = b.sch) : a = b := by
  have e1 := foldl_sch a nil
  have e2 := foldl_sch b nil
  rw [h, e2] at e1
  exact e1.symm
end T

/-- a schedule that begins with `runs` runs -/
def Ok : Nat → List Nat → Prop
  | _, [] => True
  | k, m :: r => m ≤ k ∧ Ok (k - m + 1) r
theorem ok_tree : ∀ (p : List Nat) (u : T), Ok u.runs p → ∃ t : T, t.sch = u.sch ++ p ∧ p.foldl T.push u = t
  | [], u, _ => ⟨u, by simp, rfl⟩
  | m :: r, u, h => by
    obtain ⟨h1, h2⟩ := h
    rw [← T.push_runs u m h1] at h2
    obtain ⟨t, e1, e2⟩ := ok_tree r (u.push m) h2
    exact ⟨t, by rw [e1, T.push_sch u m h1]; simp, e2⟩
theorem tree_ex {p : List Nat} (h : Ok 0 p) : ∃ t : T, t.sch = p := by
  obtain ⟨t, e, _⟩ := ok_tree p .nil h
  exact ⟨t, by rw [e]; rfl⟩
theorem ok_app : ∀ (p q : List Nat) (k k' : Nat), Ok k p → k' + p.sum = k + p.length → Ok k' q → Ok k (p ++ q)
  | [], q, k, k', _, e, h => by
    have : k' = k := by simpa using e
    subst this; exact h
  | m :: r, q, k, k', h, e, hq => ⟨h.1, ok_app r q (k - m + 1) k' h.2 (by have := h.1; simp at e; omega) hq⟩
theorem ok_sch_from : ∀ (t : T) (k : Nat), Ok k t.sch
  | .nil, _ => trivial
  | .node l r, k => by
    refine ok_app l.sch _ k (k + l.runs) (ok_sch_from l k) (by have := T.sum_sch l; rw [T.sch_len]; omega) ?_
    exact ⟨by omega, ok_sch_from r _⟩
theorem ok_take : ∀ (p : List Nat) (k i : Nat), Ok k p → Ok k (p.take i)
  | [], _, i, _ => by cases i <;> trivial
  | m :: r, k, 0, _ => trivial
  | m :: r, k, i + 1, h => ⟨h.1, ok_take r _ i h.2⟩
/-- the tree of the first i flushes -/
def pre (t : T) (i : Nat) : T := (t.sch.take i).foldl T.push .nil
theorem pre_sch (t : T) (i : Nat) : (pre t i).sch = t.sch.take i := by
  obtain ⟨u, e1, e2⟩ := ok_tree (t.sch.take i) .nil (ok_take _ _ i (ok_sch_from t _))
  unfold pre; rw [e2, e1]; rfl
theorem pre_size {t : T} {i : Nat} (h : i ≤ t.size) : (pre t i).size = i := by
  rw [← T.sch_len, pre_sch, List.length_take, T.sch_len]; omega
theorem pre_zero (t : T) : pre t 0 = .nil := rfl
theorem pre_all (t : T) : pre t t.size = t := T.sch_inj (by rw [pre_sch, List.take_of_length_le (by rw [T.sch_len]; exact Nat.le_refl _)])
theorem ok_last : ∀ (p : List Nat) (k m : Nat) (q : List Nat), Ok k (p ++ m :: q) → m + p.sum ≤ k + p.length
  | [], k, m, q, h => by simpa using h.1
  | a :: r, k, m, q, h => by
    have := ok_last r (k - a + 1) m q h.2
    have h1 := h.1
    simp; omega
theorem pre_succ {t : T} {i : Nat} {m : Nat} (h : t.sch[i]? = some m) : pre t (i + 1) = (pre t i).push m ∧ m ≤ (pre t i).runs := by
  have hi : i < t.sch.length := (List.getElem?_eq_some_iff.mp h).1
  constructor
  · unfold pre
    rw [List.take_add_one, h]
    simp
  · have e : t.sch = t.sch.take i ++ m :: t.sch.drop (i + 1) := by
      have h2 := List.getElem?_eq_some_iff.mp h
      obtain ⟨h3, h4⟩ := h2
      rw [← h4]
      simp
    have h1 := ok_sch_from t 0
    rw [e] at h1
    have h2 := ok_last _ _ _ _ h1
    have h3 := T.sum_sch (pre t i)
    rw [pre_sch] at h3
    have h4 : (pre t i).size = (t.sch.take i).length := by rw [← T.sch_len, pre_sch]
    omega
theorem rc_take : ∀ (t : T) (i : Nat), (pre t i).rc = t.rc.take i := by
  intro t i
  by_cases hi : i ≤ t.size
  · suffices h : ∀ k, i + k = t.size → (pre t i).rc = t.rc.take i from h (t.size - i) (by omega)
    intro k
    induction k generalizing i with
    | zero =>
      intro e
      rw [show i = t.size by omega, pre_all, List.take_of_length_le (by rw [T.rc_len]; omega)]
    | succ k ih =>
      intro e
      have hl : i < t.sch.length := by rw [T.sch_len]; omega
      obtain ⟨e1, h1⟩ := pre_succ (List.getElem?_eq_getElem hl)
      have h2 := ih (i + 1) (by omega) (by omega)
      rw [e1, T.push_rc _ _ h1] at h2
      have h3 := congrArg (List.take i) h2
      rw [List.take_append_of_le_length (by rw [T.rc_len, pre_size (by omega)]; omega), List.take_take, List.take_of_length_le (by rw [T.rc_len, pre_size (by omega)]; omega)] at h3
      rw [h3]; congr 1; omega
  · have e : t.sch.take i = t.sch := List.take_of_length_le (by rw [T.sch_len]; omega)
    have : pre t i = t := T.sch_inj (by rw [pre_sch, e])
    rw [this, List.take_of_length_le (by rw [T.rc_len]; omega)]
theorem rc_at {t : T} {i m : Nat} (h : t.sch[i]? = some m) : t.rc[i]? = some ((pre t i).runs - m + 1) := by
  obtain ⟨e1, h1⟩ := pre_succ h
  have hi : i < t.size := by rw [← T.sch_len]; exact (List.getElem?_eq_some_iff.mp h).1
  have h2 := rc_take t (i + 1)
  rw [e1, T.push_rc _ _ h1] at h2
  have h3 := congrArg (fun l : List Nat => l[i]?) h2
  simp only [List.getElem?_take] at h3
  rw [List.getElem?_append_right (by rw [T.rc_len, pre_size (by omega)]; omega), T.rc_len, pre_size (by omega)] at h3
  simp at h3
  exact h3.symm
theorem pre_runs {t : T} {i : Nat} (h : i < t.size) : t.rc[i]? = some (pre t (i + 1)).runs := by
  have hl : i < t.sch.length := by rw [T.sch_len]; exact h
  obtain ⟨e1, h1⟩ := pre_succ (List.getElem?_eq_getElem hl)
  rw [rc_at (List.getElem?_eq_getElem hl), e1, T.push_runs _ _ h1]
/-! ### write counts by place -/
theorem wr_step {t : T} {m : Nat} (h : m ≤ t.runs) (k : Nat) : ((t.push m).wr.getD k 0) = if t.start m ≤ k ∧ k < t.size + 1 then t.wr.getD k 0 + 1 else t.wr.getD k 0 := by
  have hs := T.start_le t m h
  have hl := T.wr_len t
  rw [T.push_wr t m h]
  simp only [List.getD_eq_getElem?_getD]
  by_cases h1 : k < t.start m
  · rw [List.getElem?_append_left (by rw [List.length_take]; omega), List.getElem?_take, if_pos h1, if_neg (by omega)]
  · have e : (t.wr.take (t.start m)).length = t.start m := by rw [List.length_take]; omega
    rw [List.getElem?_append_right (by omega), e]
    by_cases h2 : k < t.size
    · rw [List.getElem?_append_left (by rw [List.length_map, List.length_drop]; omega), List.getElem?_map, List.getElem?_drop, if_pos (by omega), show t.start m + (k - t.start m) = k by omega]
      rw [List.getElem?_eq_getElem (by omega)]
      rfl
    · by_cases h3 : k = t.size
      · have e2 : ((t.wr.drop (t.start m)).map (· + 1)).length = k - t.start m := by rw [List.length_map, List.length_drop]; omega
        rw [List.getElem?_append_right (by omega), e2, Nat.sub_self, if_pos (by omega), List.getElem?_eq_none (by omega : t.wr.length ≤ k)]
        rfl
      · rw [List.getElem?_eq_none (by simp; omega), if_neg (by omega), List.getElem?_eq_none (by omega : t.wr.length ≤ k)]
theorem list_by {c d : List Nat} (hl : c.length = d.length) (h : ∀ k, k < c.length → c[k]? = some (d.getD k 0)) : c = d := by
  refine List.ext_getElem? fun k => ?_
  by_cases hk : k < c.length
  · rw [h k hk, List.getD_eq_getElem?_getD, List.getElem?_eq_getElem (by omega)]
    rfl
  · rw [List.getElem?_eq_none (by omega), List.getElem?_eq_none (by omega)]
theorem stk_last {t : T} {i m : Nat} (h : t.sch[i]? = some m) : (pre t (i + 1)).stk 0 = ((pre t i).stk 0).take ((pre t i).runs - m) ++ [((pre t i).start m, i + 1)] := by
  obtain ⟨e, h1⟩ := pre_succ h
  have hi : i < t.size := by rw [← T.sch_len]; exact (List.getElem?_eq_some_iff.mp h).1
  rw [e, T.stk_push _ _ h1, Nat.zero_add, Nat.zero_add, pre_size (by omega)]

/-! ### subtrees -/
inductive Sub (t : T) : Nat → T → Nat → Int → Prop
  | root : Sub t 0 t 1 (-1)
  | left {off k : Nat} {p : Int} {l r : T} : Sub t off (.node l r) k p → Sub t off l k ((off + l.size : Nat) : Int)
  | right {off k : Nat} {p : Int} {l r : T} : Sub t off (.node l r) k p → Sub t (off + l.size + 1) r (k + 1) ((off + l.size : Nat) : Int)
def T.parOf (t : T) : List Int := t.par 0 (-1)
theorem slice_left {α : Type} {L a b : List α} {x : α} {off : Nat} (h : (L.drop off).take (a.length + 1 + b.length) = a ++ x :: b) : (L.drop off).take a.length = a := by
  have := congrArg (List.take a.length) h
  rw [List.take_take, List.take_left' rfl, show min a.length (a.length + 1 + b.length) = a.length by omega] at this
  exact this
theorem slice_mid {α : Type} {L a b : List α} {x : α} {off : Nat} (h : (L.drop off).take (a.length + 1 + b.length) = a ++ x :: b) : L[off + a.length]? = some x := by
  have := congrArg (fun l : List α => l[a.length]?) h
  simp only [List.getElem?_take, List.getElem?_drop] at this
  rw [if_pos (by omega), List.getElem?_append_right (Nat.le_refl _), Nat.sub_self] at this
  simpa using this
theorem slice_right {α : Type} {L a b : List α} {x : α} {off : Nat} (h : (L.drop off).take (a.length + 1 + b.length) = a ++ x :: b) : (L.drop (off + a.length + 1)).take b.length = b := by
  have := congrArg (List.drop (a.length + 1)) h
  rw [List.drop_take, List.drop_drop] at this
  have e2 : List.drop (a.length + 1) (a ++ x :: b) = b := by
    rw [List.drop_append]; simp
  rw [e2] at this
  have h2 := congrArg (List.take b.length) this
  rw [List.take_take, List.take_length] at h2
  rw [← Nat.add_assoc] at h2
  rw [show b.length = min b.length (a.length + 1 + b.length - (a.length + 1)) by omega]
  exact h2
theorem sub_le {t : T} {off k : Nat} {s : T} {p : Int} (h : Sub t off s k p) : off + s.size ≤ t.size ∧ 1 ≤ k ∧ k ≤ off + 1 := by
  induction h with
  | root => exact ⟨by omega, by omega, by omega⟩
  | left _ ih => simp only [T.size] at ih; omega
  | right _ ih => simp only [T.size] at ih; omega
theorem sub_out {t : T} {off k : Nat} {s : T} {p : Int} (h : Sub t off s k p) : (p = -1 ∨ ((0 ≤ p ∧ p < t.size) ∧ (p + 1 = off ∨ p = ((off + s.size : Nat) : Int)))) := by
  cases h with
  | root => exact .inl rfl
  | left h => have := sub_le h; simp only [T.size] at this; exact .inr ⟨by omega, .inr rfl⟩
  | right h => have := sub_le h; simp only [T.size] at this; exact .inr ⟨by omega, .inl (by omega)⟩
theorem sub_rc {t : T} {off k : Nat} {s : T} {p : Int} (h : Sub t off s k p) : (t.rc.drop off).take s.size = s.rc.map (· + (k - 1)) := by
  induction h with
  | root => simp [← T.rc_len]
  | @left off k p l r h ih =>
    have e : (T.node l r).rc.map (· + (k - 1)) = l.rc.map (· + (k - 1)) ++ (1 + (k - 1)) :: (r.rc.map (· + 1)).map (· + (k - 1)) := by simp [T.rc]
    rw [e] at ih
    have hl : (l.rc.map (· + (k - 1))).length = l.size := by rw [List.length_map, T.rc_len]
    have hr : ((r.rc.map (· + 1)).map (· + (k - 1))).length = r.size := by rw [List.length_map, List.length_map, T.rc_len]
    have := slice_left (a := l.rc.map (· + (k - 1))) (b := (r.rc.map (· + 1)).map (· + (k - 1))) (L := t.rc) (off := off) (x := 1 + (k - 1)) (by rw [hl, hr]; exact ih)
    rw [hl] at this
    exact this
  | @right off k p l r h ih =>
    have e : (T.node l r).rc.map (· + (k - 1)) = l.rc.map (· + (k - 1)) ++ (1 + (k - 1)) :: (r.rc.map (· + 1)).map (· + (k - 1)) := by simp [T.rc]
    rw [e] at ih
    have hl : (l.rc.map (· + (k - 1))).length = l.size := by rw [List.length_map, T.rc_len]
    have hr : ((r.rc.map (· + 1)).map (· + (k - 1))).length = r.size := by rw [List.length_map, List.length_map, T.rc_len]
    have := slice_right (a := l.rc.map (· + (k - 1))) (b := (r.rc.map (· + 1)).map (· + (k - 1))) (L := t.rc) (off := off) (x := 1 + (k - 1)) (by rw [hl, hr]; exact ih)
    rw [hl, hr] at this
    rw [this, List.map_map]
    refine List.map_congr_left fun a _ => ?_
    have := (sub_le h).2.1
    simp only [Function.comp]
    omega
theorem sub_par {t : T} {off k : Nat} {s : T} {p : Int} (h : Sub t off s k p) : (t.parOf.drop off).take s.size = s.par (off : Int) p := by
  induction h with
  | root => simp only [T.parOf]; rw [List.drop_zero, List.take_of_length_le (by rw [T.par_len]; omega)]; rfl
  | @left off k p l r h ih =>
    simp only [T.par] at ih
    have hl := T.par_len l (off : Int) ((off : Int) + l.size)
    have hr := T.par_len r ((off : Int) + l.size + 1) ((off : Int) + l.size)
    have := slice_left (a := l.par (off : Int) ((off : Int) + l.size)) (b := r.par ((off : Int) + l.size + 1) ((off : Int) + l.size)) (L := t.parOf) (off := off) (x := p) (by rw [hl, hr]; exact ih)
    rw [hl] at this
    rw [this, Int.natCast_add]
  | @right off k p l r h ih =>
    simp only [T.par] at ih
    have hl := T.par_len l (off : Int) ((off : Int) + l.size)
    have hr := T.par_len r ((off : Int) + l.size + 1) ((off : Int) + l.size)
    have := slice_right (a := l.par (off : Int) ((off : Int) + l.size)) (b := r.par ((off : Int) + l.size + 1) ((off : Int) + l.size)) (L := t.parOf) (off := off) (x := p) (by rw [hl, hr]; exact ih)
    rw [hl, hr] at this
    rw [this]
    simp only [Int.natCast_add]
    rfl
theorem sub_root {t : T} {off k : Nat} {l r : T} {p : Int} (h : Sub t off (.node l r) k p) : t.parOf[off + l.size]? = some p := by
  have ih := sub_par h
  simp only [T.par] at ih
  have hl := T.par_len l (off : Int) ((off : Int) + l.size)
  have hr := T.par_len r ((off : Int) + l.size + 1) ((off : Int) + l.size)
  have := slice_mid (a := l.par (off : Int) ((off : Int) + l.size)) (b := r.par ((off : Int) + l.size + 1) ((off : Int) + l.size)) (L := t.parOf) (off := off) (x := p) (by rw [hl, hr]; exact ih)
  rw [hl] at this
  exact this
/-- the parents of a subtree: the root's alone lies outside -/
theorem par_in : ∀ (s : T) (off p : Int) (i : Nat) (q : Int), (s.par off p)[i]? = some q → (∃ l r, s = .node l r ∧ i = l.size ∧ q = p) ∨ (off ≤ q ∧ q < off + s.size ∧ ∀ l r, s = .node l r → i ≠ l.size)
  | .nil, _, _, _, _, h => by simp [T.par] at h
  | .node l r, off, p, i, q, h => by
    simp only [T.par] at h
    have hl := T.par_len l off (off + l.size)
    by_cases h1 : i < l.size
    · rw [List.getElem?_append_left (by omega)] at h
      refine .inr ?_
      rcases par_in l off (off + l.size) i q h with ⟨a, b, e, e2, e3⟩ | ⟨h2, h3, _⟩
      · refine ⟨by omega, by simp only [T.size]; omega, fun l' r' e' => by cases e'; omega⟩
      · refine ⟨by omega, by simp only [T.size]; omega, fun l' r' e' => by cases e'; omega⟩
    · rw [List.getElem?_append_right (by omega), hl] at h
      by_cases h2 : i = l.size
      · subst h2
        rw [Nat.sub_self] at h
        have : p = q := by simpa using h
        exact .inl ⟨l, r, rfl, rfl, this.symm⟩
      · obtain ⟨j, e⟩ : ∃ j, i - l.size = j + 1 := ⟨i - l.size - 1, by omega⟩
        rw [e, List.getElem?_cons_succ] at h
        refine .inr ?_
        rcases par_in r (off + l.size + 1) (off + l.size) j q h with ⟨a, b, e4, e2, e3⟩ | ⟨h4, h3, _⟩
        · refine ⟨by omega, by simp only [T.size]; omega, fun l' r' e' => by cases e'; omega⟩
        · refine ⟨by omega, by simp only [T.size]; omega, fun l' r' e' => by cases e'; omega⟩
theorem rc_pos : ∀ (s : T) (i v : Nat), s.rc[i]? = some v → 1 ≤ v
  | .nil, _, _, h => by simp [T.rc] at h
  | .node l r, i, v, h => by
    simp only [T.rc] at h
    by_cases h1 : i < l.size
    · rw [List.getElem?_append_left (by rw [T.rc_len]; exact h1)] at h
      exact rc_pos l i v h
    · rw [List.getElem?_append_right (by rw [T.rc_len]; omega), T.rc_len] at h
      rcases Nat.eq_zero_or_pos (i - l.size) with e | e
      · rw [e] at h; simp at h; omega
      · obtain ⟨j, e⟩ : ∃ j, i - l.size = j + 1 := ⟨i - l.size - 1, by omega⟩
        rw [e, List.getElem?_cons_succ, List.getElem?_map] at h
        cases h2 : r.rc[j]? with
        | none => rw [h2] at h; cases h
        | some u => rw [h2] at h; simp at h; omega
theorem rc_one {l r : T} {i : Nat} (h : (T.node l r).rc[i]? = some 1) : i ≤ l.size := by
  simp only [T.rc] at h
  by_cases h1 : i ≤ l.size
  · exact h1
  · rw [List.getElem?_append_right (by rw [T.rc_len]; omega), T.rc_len] at h
    obtain ⟨j, e⟩ : ∃ j, i - l.size = j + 1 := ⟨i - l.size - 1, by omega⟩
    rw [e, List.getElem?_cons_succ, List.getElem?_map] at h
    cases h2 : r.rc[j]? with
    | none => rw [h2] at h; cases h
    | some u =>
      have := rc_pos r j u h2
      rw [h2] at h; simp at h; omega
theorem rc_root (l r : T) : (T.node l r).rc[l.size]? = some 1 := by
  simp only [T.rc]
  rw [List.getElem?_append_right (by rw [T.rc_len]; exact Nat.le_refl _), T.rc_len, Nat.sub_self]; rfl
theorem sub_rc_at {t : T} {off k : Nat} {s : T} {p : Int} (h : Sub t off s k p) {i : Nat} (hi : i < s.size) : ∃ v, s.rc[i]? = some v ∧ t.rc[off + i]? = some (v + (k - 1)) := by
  have e := congrArg (fun l : List Nat => l[i]?) (sub_rc h)
  simp only [List.getElem?_take, List.getElem?_drop, List.getElem?_map] at e
  rw [if_pos hi] at e
  have hv := List.getElem?_eq_getElem (show i < s.rc.length by rw [T.rc_len]; exact hi)
  rw [hv] at e
  exact ⟨_, hv, e⟩
theorem sub_par_at {t : T} {off k : Nat} {s : T} {p : Int} (h : Sub t off s k p) {i : Nat} (hi : i < s.size) : ∃ q, (s.par (off : Int) p)[i]? = some q ∧ t.parOf[off + i]? = some q := by
  have e := congrArg (fun l : List Int => l[i]?) (sub_par h)
  simp only [List.getElem?_take, List.getElem?_drop] at e
  rw [if_pos hi] at e
  have hv := List.getElem?_eq_getElem (show i < (s.par (off : Int) p).length by rw [T.par_len]; exact hi)
  rw [hv] at e
  exact ⟨_, hv, e⟩
theorem filter_one {f : Nat → Bool} {n c : Nat} (hc : c < n) (h1 : f c = true) (h2 : ∀ i, i < n → f i = true → i = c) : (List.range n).filter f = [c] := by
  induction n with
  | zero => omega
  | succ n ih =>
    rw [List.range_succ, List.filter_append]
    by_cases e : c = n
    · subst e
      have e0 : (List.range c).filter f = [] := List.filter_eq_nil_iff.mpr fun i hi hf => by
        have := List.mem_range.mp hi
        have := h2 i (by omega) hf
        omega
      rw [e0]; simp [h1]
    · rw [ih (by omega) fun i hi hf => h2 i (by omega) hf]
      have : f n = false := by
        cases hf : f n with
        | false => rfl
        | true => exact absurd (h2 n (by omega) hf) (by omega)
      simp [this]
/-- the work of a list of subtrees -/
def todo : List (Nat × T × Nat × Int) → Nat
  | [] => 0
  | x :: r => 2 * x.2.1.size + 1 + todo r
theorem todo_app : ∀ a b, todo (a ++ b) = todo a + todo b
  | [], b => by simp [todo]
  | x :: r, b => by simp [todo, todo_app r b]; omega
theorem len_todo : ∀ L, L.length ≤ todo L
  | [] => Nat.le_refl _
  | x :: r => by have := len_todo r; simp [todo]; omega

/-! ### one step up -/
theorem getD_app_l {a b : List Nat} {i : Nat} (h : i < a.length) : (a ++ b).getD i 0 = a.getD i 0 := by
  simp only [List.getD_eq_getElem?_getD, List.getElem?_append_left h]
theorem getD_app_r {a b : List Nat} {i : Nat} (h : a.length ≤ i) : (a ++ b).getD i 0 = b.getD (i - a.length) 0 := by
  simp only [List.getD_eq_getElem?_getD, List.getElem?_append_right h]
theorem getD_map1 {a : List Nat} {i : Nat} (h : i < a.length) : (a.map (· + 1)).getD i 0 = a.getD i 0 + 1 := by
  simp only [List.getD_eq_getElem?_getD, List.getElem?_map, List.getElem?_eq_getElem h]; rfl
theorem wr_l {l r : T} {i : Nat} (h : i < l.size) : (T.node l r).wr.getD i 0 = l.wr.getD i 0 + 1 := by
  simp only [T.wr]
  rw [getD_app_l (by rw [List.length_map, T.wr_len]; exact h), getD_map1 (by rw [T.wr_len]; exact h)]
theorem wr_m {l r : T} : (T.node l r).wr.getD l.size 0 = 1 := by
  simp only [T.wr]
  rw [getD_app_r (by rw [List.length_map, T.wr_len]; exact Nat.le_refl _), List.length_map, T.wr_len, Nat.sub_self]; rfl
theorem wr_r {l r : T} {j : Nat} : (T.node l r).wr.getD (l.size + 1 + j) 0 = r.wr.getD j 0 := by
  simp only [T.wr]
  rw [getD_app_r (by rw [List.length_map, T.wr_len]; omega), List.length_map, T.wr_len, show l.size + 1 + j - l.size = j + 1 by omega, List.getD_cons_succ]
theorem rc_l {l r : T} {i : Nat} (h : i < l.size) : (T.node l r).rc.getD i 0 = l.rc.getD i 0 := by
  simp only [T.rc]
  rw [getD_app_l (by rw [T.rc_len]; exact h)]
theorem rc_m {l r : T} : (T.node l r).rc.getD l.size 0 = 1 := by
  simp only [T.rc]
  rw [getD_app_r (by rw [T.rc_len]; exact Nat.le_refl _), T.rc_len, Nat.sub_self]; rfl
theorem rc_r {l r : T} {j : Nat} (h : j < r.size) : (T.node l r).rc.getD (l.size + 1 + j) 0 = r.rc.getD j 0 + 1 := by
  simp only [T.rc]
  rw [getD_app_r (by rw [T.rc_len]; omega), T.rc_len, show l.size + 1 + j - l.size = j + 1 by omega, List.getD_cons_succ, getD_map1 (by rw [T.rc_len]; exact h)]
theorem up : ∀ (s : T) (off p : Int) (i : Nat) (q : Int), (s.par off p)[i]? = some q →
    (q = p ∧ s.wr.getD i 0 = 1 ∧ s.rc.getD i 0 = 1) ∨
    ∃ j : Nat, q = off + j ∧ j < s.size ∧ j ≠ i ∧ (i < j → s.wr.getD i 0 = s.wr.getD j 0 + 1 ∧ s.rc.getD i 0 = s.rc.getD j 0) ∧ (j < i → s.wr.getD i 0 = s.wr.getD j 0 ∧ s.rc.getD i 0 = s.rc.getD j 0 + 1)
  | .nil, _, _, _, _, h => by simp [T.par] at h
  | .node l r, off, p, i, q, h => by
    simp only [T.par] at h
    have hl := T.par_len l off (off + l.size)
    by_cases h1 : i < l.size
    · rw [List.getElem?_append_left (by omega)] at h
      refine .inr ?_
      rcases up l off (off + l.size) i q h with ⟨e, e1, e2⟩ | ⟨j, e, hj, hne, c1, c2⟩
      · exact ⟨l.size, e, by simp only [T.size]; omega, by omega, fun _ => ⟨by rw [wr_l h1, wr_m, e1], by rw [rc_l h1, rc_m, e2]⟩, fun z => by omega⟩
      · exact ⟨j, e, by simp only [T.size]; omega, hne, fun z => ⟨by rw [wr_l h1, wr_l hj, (c1 z).1], by rw [rc_l h1, rc_l hj, (c1 z).2]⟩, fun z => ⟨by rw [wr_l h1, wr_l hj, (c2 z).1], by rw [rc_l h1, rc_l hj, (c2 z).2]⟩⟩
    · rw [List.getElem?_append_right (by omega), hl] at h
      by_cases h2 : i = l.size
      · subst h2
        rw [Nat.sub_self] at h
        have : p = q := by simpa using h
        exact .inl ⟨this.symm, wr_m, rc_m⟩
      · obtain ⟨k, e⟩ : ∃ k, i = l.size + 1 + k := ⟨i - l.size - 1, by omega⟩
        subst e
        rw [show l.size + 1 + k - l.size = k + 1 by omega, List.getElem?_cons_succ] at h
        have hk : k < r.size := by
          have := (List.getElem?_eq_some_iff.mp h).1
          rw [T.par_len] at this; exact this
        refine .inr ?_
        rcases up r (off + l.size + 1) (off + l.size) k q h with ⟨e, e1, e2⟩ | ⟨j, e, hj, hne, c1, c2⟩
        · exact ⟨l.size, e, by simp only [T.size]; omega, by omega, fun z => by omega, fun _ => ⟨by rw [wr_r, wr_m, e1], by rw [rc_r hk, rc_m, e2]⟩⟩
        · exact ⟨l.size + 1 + j, by rw [e]; omega, by simp only [T.size]; omega, by omega, fun z => ⟨by rw [wr_r, wr_r, (c1 (by omega)).1], by rw [rc_r hk, rc_r hj, (c1 (by omega)).2]⟩, fun z => ⟨by rw [wr_r, wr_r, (c2 (by omega)).1], by rw [rc_r hk, rc_r hj, (c2 (by omega)).2]⟩⟩
theorem wr_pos {t : T} {i : Nat} (h : i < t.size) : 1 ≤ t.wr.getD i 0 := by
  induction t generalizing i with
  | nil => simp [T.size] at h
  | node l r ihl ihr =>
    by_cases h1 : i < l.size
    · rw [wr_l h1]; omega
    · by_cases h2 : i = l.size
      · subst h2; rw [wr_m]; exact Nat.le_refl _
      · obtain ⟨k, e⟩ : ∃ k, i = l.size + 1 + k := ⟨i - l.size - 1, by omega⟩
        subst e
        rw [wr_r]; exact ihr (by simp only [T.size] at h; omega)
theorem rc_posD {t : T} {i : Nat} (h : i < t.size) : 1 ≤ t.rc.getD i 0 := by
  have := List.getElem?_eq_getElem (show i < t.rc.length by rw [T.rc_len]; exact h)
  rw [List.getD_eq_getElem?_getD, this]
  exact rc_pos t i _ this

/-! ### mirrors -/
def mirN (N : Int) (q : Int) : Int := if q = -1 then -1 else N - 1 - q
theorem mir_size : ∀ t : T, t.mir.size = t.size
  | .nil => rfl
  | .node l r => by simp [T.mir, T.size, mir_size l, mir_size r]; omega
theorem mir_par : ∀ (s : T) (N off p : Int), 0 ≤ off → ((s.par off p).reverse).map (mirN N) = s.mir.par (N - off - s.size) (mirN N p)
  | .nil, _, _, _, _ => rfl
  | .node l r, N, off, p, h => by
    simp only [T.par, T.mir, List.reverse_append, List.reverse_cons, List.map_append, List.map_cons, List.map_nil]
    rw [mir_par l N off (off + l.size) h, mir_par r N (off + l.size + 1) (off + l.size) (by omega), mir_size]
    have e1 : mirN N (off + l.size) = N - 1 - (off + l.size) := by unfold mirN; rw [if_neg (by omega)]
    rw [e1]
    have e2 : N - off - ((T.node l r).size : Int) = N - (off + l.size + 1) - r.size := by simp only [T.size]; omega
    rw [e2]
    have e3 : N - (off + ↑l.size + 1) - ↑r.size + ↑r.size = N - 1 - (off + ↑l.size) := by omega
    rw [e3, show N - 1 - (off + (l.size : Int)) + 1 = N - off - l.size by omega]
    simp
theorem mir_parOf (t : T) : t.mir.parOf = (t.parOf.reverse).map (mirN t.size) := by
  unfold T.parOf
  rw [mir_par t t.size 0 (-1) (by omega)]
  rw [show ((t.size : Int) - 0 - t.size) = 0 by omega]
  rfl
theorem mir_wr : ∀ t : T, t.mir.wr = t.rc.reverse
  | .nil => rfl
  | .node l r => by simp [T.mir, T.wr, T.rc, mir_wr l, mir_wr r]
theorem mir_rc : ∀ t : T, t.mir.rc = t.wr.reverse
  | .nil => rfl
  | .node l r => by simp [T.mir, T.wr, T.rc, mir_rc l, mir_rc r]
theorem mir_mir : ∀ t : T, t.mir.mir = t
  | .nil => rfl
  | .node l r => by simp [T.mir, mir_mir l, mir_mir r]

/-! ### parents of a joined tree -/
theorem par_below {N : Int} : ∀ (s : T) (off p : Int), 0 ≤ off → (s.par off p).map (fun q => if q = -1 then N else q) = s.par off (if p = -1 then N else p)
  | .nil, _, _, _ => rfl
  | .node l r, off, p, h => by
    simp only [T.par, List.map_append, List.map_cons]
    rw [par_below l off _ h, par_below r (off + l.size + 1) _ (by omega), if_neg (by omega : ¬ off + (l.size : Int) = -1)]
theorem par_beyond {N : Int} : ∀ (s : T) (off p : Int), 0 ≤ off → (s.par off p).map (fun q => if q = -1 then N else q + N + 1) = s.par (off + N + 1) (if p = -1 then N else p + N + 1)
  | .nil, _, _, _ => rfl
  | .node l r, off, p, h => by
    simp only [T.par, List.map_append, List.map_cons]
    rw [par_beyond l off _ h, par_beyond r (off + l.size + 1) _ (by omega), if_neg (by omega : ¬ off + (l.size : Int) = -1)]
    have e1 : off + (l.size : Int) + N + 1 = off + N + 1 + l.size := by omega
    have e2 : off + (l.size : Int) + 1 + N + 1 = off + N + 1 + l.size + 1 := by omega
    rw [e1, e2]
theorem parOf_node (s u : T) : (T.node s u).parOf = s.parOf.map (fun q => if q = -1 then (s.size : Int) else q) ++ [-1] ++ u.parOf.map (fun q => if q = -1 then (s.size : Int) else q + s.size + 1) := by
  unfold T.parOf
  rw [par_below s 0 (-1) (by omega), par_beyond u 0 (-1) (by omega)]
  simp only [T.par]
  simp
theorem parOf_root (s u : T) : (T.node s u).parOf[s.size]? = some (-1) := by
  have := sub_root (t := T.node s u) .root
  simpa using this
theorem parOf_first {s u : T} {m : Nat} (h : m < s.size) : (T.node s u).parOf[m]? ≠ some (-1) := fun e => by
  rcases par_in _ _ _ _ _ e with ⟨l, r, e1, e2, _⟩ | ⟨h1, _, _⟩
  · cases e1; omega
  · omega

/-! ### runs as lists of flushes -/
theorem stk_pair : ∀ (t : T) (off j : Nat), j + 1 ≤ t.runs → (t.stk off)[t.runs - (j + 1)]? = some (off + t.start (j + 1), off + t.start j)
  | .nil, _, _, h => by simp [T.runs] at h
  | .node l r, off, j, h => by
    by_cases e : j = r.runs
    · subst e
      have e1 : (T.node l r).runs = r.runs + 1 := by simp [T.runs]; omega
      rw [e1, Nat.sub_self, ← e1, T.start_eq, T.start_node (Nat.le_refl _), T.start_eq]
      rfl
    · have h1 : j + 1 ≤ r.runs := by simp [T.runs] at h; omega
      have e1 : (T.node l r).runs - (j + 1) = (r.runs - (j + 1)) + 1 := by simp [T.runs]; omega
      rw [e1, T.start_node h1, T.start_node (by omega)]
      simp only [T.stk, List.getElem?_cons_succ]
      rw [stk_pair r (off + l.size + 1) j h1]
      congr 2 <;> omega
theorem start_anti : ∀ (t : T) (j : Nat), j + 1 ≤ t.runs → t.start (j + 1) < t.start j
  | .nil, _, h => by simp [T.runs] at h
  | .node l r, j, h => by
    by_cases e : j = r.runs
    · subst e
      have e1 : (T.node l r).runs = r.runs + 1 := by simp [T.runs]; omega
      rw [← e1, T.start_eq, T.start_node (Nat.le_refl _), T.start_eq]
      omega
    · have h1 : j + 1 ≤ r.runs := by simp [T.runs] at h; omega
      rw [T.start_node h1, T.start_node (by omega)]
      have := start_anti r j h1
      omega
/-- the flushes of [a, b) -/
def seg (a b : Nat) : List Nat := List.range' a (b - a)
theorem seg_app {a b c : Nat} (h1 : a ≤ b) (h2 : b ≤ c) : seg a b ++ seg b c = seg a c := by
  unfold seg
  have := List.range'_append_1 (s := a) (m := b - a) (n := c - b)
  rw [show a + (b - a) = b by omega, show b - a + (c - b) = c - a by omega] at this
  exact this
theorem seg_one (a : Nat) : seg a (a + 1) = [a] := by
  unfold seg
  rw [show a + 1 - a = 1 by omega]; rfl
theorem seg_nil (a : Nat) : seg a a = [] := by unfold seg; rw [Nat.sub_self]; rfl
theorem seg_len (a b : Nat) : (seg a b).length = b - a := by unfold seg; rw [List.length_range']
theorem seg_at {a b k : Nat} (h : a + k < b) : (seg a b)[k]? = some (a + k) := by
  unfold seg
  rw [List.getElem?_range' (by omega)]
  simp
theorem stk_take_succ {t : T} {j : Nat} (off : Nat) (h : j + 1 ≤ t.runs) : (t.stk off).take (t.runs - j) = (t.stk off).take (t.runs - (j + 1)) ++ [(off + t.start (j + 1), off + t.start j)] := by
  rw [show t.runs - j = (t.runs - (j + 1)) + 1 by omega, List.take_add_one, stk_pair t off j h]; rfl
/-- adjacent, from off on -/
theorem stk_starts : ∀ (t : T) (off : Nat), (t.stk off).map (·.1) = (off :: (t.stk off).map (·.2)).dropLast
  | .nil, _ => rfl
  | .node l r, off => by
    have ih := stk_starts r (off + l.size + 1)
    simp only [T.stk, List.map_cons]
    rw [ih]; rfl
theorem stk_stops : ∀ (t : T) (off : Nat), (off :: (t.stk off).map (·.2)).getLast? = some (off + t.size)
  | .nil, off => by simp [T.stk, T.size]
  | .node l r, off => by
    have ih := stk_stops r (off + l.size + 1)
    simp only [T.stk, List.map_cons, T.size]
    rw [List.getLast?_cons_cons, ih]
    congr 1; omega
theorem stk_lt : ∀ (t : T) (off : Nat) (p : Nat × Nat), p ∈ t.stk off → off ≤ p.1 ∧ p.1 < p.2 ∧ p.2 ≤ off + t.size
  | .nil, _, _, h => by simp [T.stk] at h
  | .node l r, off, p, h => by
    simp only [T.stk] at h
    rcases List.mem_cons.mp h with rfl | h
    · simp only [T.size]; omega
    · have := stk_lt r _ p h
      simp only [T.size]; omega
end MB

set_option maxHeartbeats 4000000
namespace MB
open PySem PySem.Spec PyProof.Rows L2

/-! ### great powers -/
def CPowW (i j : Int) : Prop := 0 ≤ j ∧ (Builtin.Int.intBits i : Int) * j ≤ 2 ^ 27
theorem op_powW {X : Cx} : OpR X (binaryOp .Pow) (rI CPowW fun i j => .int (i ^ j.toNat)) := opI fun _ _ _ _ _ _ _ hc q => pow_int hc.1 hc.2 q

/-! ### xs[i] op= e -/
theorem get_list {X : Cx} : PGet X (rIxL X.K) := by
  intro pins s σ H x y v u Q I rx ry h
  obtain ⟨p, xs, i, z, rfl, rfl, hq, he, q⟩ := h
  cases rx
  obtain ⟨t, rfl⟩ := ry
  obtain ⟨its, r, pl, hz⟩ := I.list hq
  obtain ⟨j, h1, h2, h3, h4, h5⟩ := atI_get he
  obtain ⟨w, ew, rw'⟩ := r.get h2
  have hl := r.length
  have hn := line63
  have fin : EP X pins σ Q w s := ⟨z, H, I, rw', q⟩
  by_cases h0 : 0 ≤ i
  · have hj : i.toNat = j := by
      rw [seqIndex_of h0 h5] at h1
      exact Option.some.inj h1
    exact getItem_listL pl.isList h0 (by omega) (by rw [hj]; exact ew) fin
  · have hj : (i + (its.toArray.size : Int)).toNat = j := by
      rw [seqIndex_neg (by omega) h4] at h1
      rw [List.size_toArray, ← hl]
      exact Option.some.inj h1
    exact wpAny_getItem_list_neg pl.isList (by omega) (by rw [List.size_toArray] <;> omega) (by omega) (by rw [hj]; simpa using ew) fin

/-! ### sum of a tuple of ints -/
theorem ints_at : ∀ {ns : List Int} {its : List Value}, Vals (ns.map V.int) its → ∀ (i : Nat) (v : Value), its[i]? = some v → ∃ t, v = .int (ns.getD i 0) t
  | [], _, .nil, i, v, h => by simp at h
  | n :: ns, u :: us, .cons r rr, 0, v, h => by
    obtain ⟨t, rfl⟩ := r
    simp at h
    exact ⟨t, by simp [h]⟩
  | n :: ns, u :: us, .cons r rr, i + 1, v, h => by
    have := ints_at rr i v (by simpa using h)
    simpa using this
theorem preSum_getD (ns : List Int) : ∀ k, k ≤ ns.length → preSum (fun i => ns.getD i 0) k = (ns.take k).sum
  | 0, _ => by simp [preSum]
  | k + 1, h => by
    have e : ns[k]? = some (ns.getD k 0) := by
      rw [List.getElem?_eq_getElem (by omega), List.getD_eq_getElem?_getD, List.getElem?_eq_getElem (by omega)]
      rfl
    rw [preSum, preSum_getD ns k (by omega), L2.sum_take e]
def rSumT (K : PySem.W.Frag) : List V → Hp → VK → Prop := fun xs H Q => ∃ (a : Addr) (ns : List Int), xs = [V.ref a] ∧ SqT K H a (ns.map V.int) ∧ Q (.int ns.sum) H
theorem cr_sumT {X : Cx} (hc : X.calm = true) : CallR X (.builtin "sum") (rSumT X.K) := by
  intro pins s σ H vs us Q I r h
  obtain ⟨a, ns, rfl, hs, q⟩ := h
  obtain ⟨its, rv, hl, _⟩ := I.tuple hs
  rw [Vals.ref1 r]
  have hT : s.heap.IsTuple a its.toArray := hl
  have hlt : a < s.heap.objs.size := by obtain ⟨_, e, _⟩ := hl; exact Heap.lt_size e
  refine PySem.call_sum_walkG (wpAny_pyIter_tuple hT ?_)
  refine ⟨s.heap.objs.size, [s.heap.objs.size, a], [s.heap.objs.size], its.toArray.size, _, _, fun i => ns.getD i 0, rfl, Walks.tuple (A := X.A.in1) (I.ok.hd hc) _ a (Nat.ne_of_lt hlt) its.toArray, ⟨⟨_, Heap.get?_push_size _ rfl, rfl, rfl⟩, hT.at fun o e => Heap.get?_push_of_some _ e⟩, fun b hb => ?_, fun i v hv => ints_at rv i v (by simpa using hv), fun h' tk t' hk => ?_⟩
  · show b < (s.heap.push _).objs.size
    rw [Heap.size_push]
    have e : b = s.heap.objs.size ∨ b = a := by simpa using hb
    rcases e with e | e
    · rw [e]; exact Nat.lt_succ_self _
    · rw [e]; exact Nat.lt_succ_of_lt hlt
  · have el : its.toArray.size = ns.length := by rw [List.size_toArray, ← rv.length, List.length_map]
    rw [el, preSum_getD ns _ (Nat.le_refl _), List.take_length]
    refine ⟨.int ns.sum, H, I.kept fun b o e => hk b o ?_ (Heap.get?_push_of_some _ e), ⟨_, rfl⟩, q⟩
    have := Heap.lt_size e
    simp only [List.mem_singleton]
    exact Nat.ne_of_lt this

/-! ### enumerate(tuple) -/
set_option maxHeartbeats 4000000 in
theorem meets_enumerate_newT (l : Addr) (items : Array Value) (n : Nat) (dct : Option Addr) (sl : Array (Option Value)) :
    Meets (Builtin.«enumerate.__new__» ⟨[.type "enumerate", .ref l], []⟩) (fun _ R s => s.heap.get? l = some { cls := .type "tuple", dict := dct, data := .seq items n, slots := sl } ∧
      R (.ok (.ret (.ref (s.heap.push { cls := .type "tuple_iterator", data := .fields #[.ref l, .int 0 0] }).objs.size)))
        { s with heap := (s.heap.push { cls := .type "tuple_iterator", data := .fields #[.ref l, .int 0 0] }).push { cls := .type "enumerate", data := .fields #[.none, .bool false, .ref s.heap.objs.size, rawInt 0, .none, .none] } }) :=
  .of_wp fun prog w A R s h => by
    obtain ⟨hp, g, d, tk, os⟩ := s; obtain ⟨hl, h⟩ := h
    have hsub := sub_enumerate
    have hL : Heap.IsTuple (Shared.heap ⟨hp, g, d, tk, os⟩) l items := ⟨_, hl, rfl, n, rfl⟩
    wp_walk using AutoSeq1.wpAny_loadPart' hl
    refine wpAny_stack_any fun st => wpAny_pure ?_
    split
    · rename_i c _ _ _ _ _
      cases (c == Value.type "enumerate")
      · wp_walk using AutoSeq1.wpAny_loadPart' hl, wpAny_pyIter_tuple hL
        exact ⟨_, rfl, h⟩
      · wp_walk using AutoSeq1.wpAny_loadPart' hl, wpAny_pyIter_tuple hL
        exact ⟨_, rfl, h⟩
    · wp_walk using AutoSeq1.wpAny_loadPart' hl, wpAny_pyIter_tuple hL
      exact ⟨_, rfl, h⟩
section
variable {prog : Program} {w : World} {A : Around} {E : Value → Shared → Prop} {s : Shared}
theorem call_enumerate_tuple {l : Addr} {items : Array Value} {Q : Value → Shared → Prop} (hL : s.heap.IsTuple l items)
    (h : ∀ h', IsEnum h' (s.heap.objs.size + 1) s.heap.objs.size 0 .none → h'.IsTupleIter s.heap.objs.size l 0 → h'.objs.size = s.heap.objs.size + 2 →
      (∀ b o, s.heap.get? b = some o → h'.get? b = some o) → Q (.ref (s.heap.objs.size + 1)) { s with heap := h' }) :
    wpAny (model prog w) A (call (.type "enumerate") [.ref l]) Q E s := by
  obtain ⟨⟨c, dct, dt, sl⟩, hl, hc, n, hd⟩ := hL
  replace hc : c = .type "tuple" := hc
  replace hd : dt = .seq items n := hd
  subst hc hd
  refine callType_new F.called_enumerate (by decide) (F.typeCall_enumerate_1 _) (F.newCall_enumerate_1 _) (fun obj => F.args_object_init_2 obj _) F.entry_enumerate_new
    (meets_enumerate_newT l items n dct sl) ⟨hl, ?_⟩
  have hz : (s.heap.push { cls := .type "tuple_iterator", data := .fields #[.ref l, .int 0 0] }).objs.size = s.heap.objs.size + 1 := Heap.size_push ..
  show _ ∧ _
  rw [hz]
  have he : IsEnum ((s.heap.push { cls := .type "tuple_iterator", data := .fields #[.ref l, .int 0 0] }).push
      { cls := .type "enumerate", data := .fields #[.none, .bool false, .ref s.heap.objs.size, rawInt 0, .none, .none] }) (s.heap.objs.size + 1) s.heap.objs.size 0 .none := by
    have := Heap.get?_push_size (s.heap.push { cls := .type "tuple_iterator", data := .fields #[.ref l, .int 0 0] })
      (o := { cls := .type "enumerate", data := .fields #[.none, .bool false, .ref s.heap.objs.size, rawInt 0, .none, .none] }) rfl
    rw [hz] at this; exact this
  refine ⟨⟨_, he, rfl⟩, h _ he ⟨_, Heap.get?_push_of_some _ (Heap.get?_push_size _ rfl), rfl, rfl⟩ (by rw [Heap.size_push, hz]) fun b o x => Heap.get?_push_of_some _ (Heap.get?_push_of_some _ x)⟩
end
def IteT (K : PySem.W.Frag) (a : Addr) : It :=
  ⟨fun i H => ∃ (xs : List V) (x : V), SqT K H a xs ∧ xs[i]? = some x, fun i H v H' => ∃ T x, v = .ref T ∧ H T = none ∧ H' = upd H T (.tup [.int (i : Nat), x]) ∧ ∀ xs, SqT K H a xs → xs[i]? = some x, fun i H => ∃ xs : List V, SqT K H a xs ∧ xs.length = i⟩
theorem tup_ne {h : Heap} {a it : Addr} {items : Array Value} {i : Nat} (h1 : h.IsTuple a items) (h2 : h.IsTupleIter it a i) : a ≠ it := fun e => by
  obtain ⟨o, ho, hc, n, hd⟩ := h1
  obtain ⟨o', ho', hc', hd'⟩ := h2
  rw [e] at ho
  rw [ho] at ho'
  cases ho'
  rw [hd] at hd'
  cases hd'
theorem turn_enumT {P : Program} {w : World} {K : PySem.W.Frag} {elts : List Expr} {kk : Nat} {tpos : Pos} (a e it : Addr) (hae : a ≠ e) :
    Turn P w K (.Tuple elts kk tpos) (IteT K a) [e, it] e (fun i h => (∃ old, IsEnum h e it ((i : Nat) : Int) old) ∧ h.IsTupleIter it a i ∧ e ≠ it) where
  mem := by simp
  obj := fun i h st b hb => by
    obtain ⟨⟨old, he⟩, ⟨o, ho, hc, hd⟩, _⟩ := st
    have e' : b = e ∨ b = it := by simpa using hb
    rcases e' with z | z
    · rw [z]; exact ⟨_, he, fun v q => nomatch q⟩
    · rw [z]; exact ⟨o, ho, fun v q => by rw [hd] at q; cases q⟩
  keep := fun i h h' st k => let ⟨⟨old, he⟩, hi, hne⟩ := st; ⟨⟨old, k e (by simp) _ he⟩, hi.at fun o q => k it (by simp) o q, hne⟩
  item := by
    intro X hP hw hK hc i pins s σ H E I hf st hg
    subst hP hw hK
    obtain ⟨⟨old, he⟩, hit, hne⟩ := st
    obtain ⟨xs, x, hq, hx⟩ := hg
    obtain ⟨its, rv, p, hz⟩ := I.tuple hq
    have p : s.heap.IsTuple a its.toArray := p
    have hat : a ≠ it := tup_ne p hit
    have hel : e < s.heap.objs.size := Heap.lt_size he
    have hil : it < s.heap.objs.size := by obtain ⟨_, q, _⟩ := hit; exact Heap.lt_size q
    have hlen : i < its.toArray.size := by
      rw [List.size_toArray, ← rv.length]; exact (List.getElem?_eq_some_iff.mp hx).1
    refine wpAny_pyNext_enum_itemD (Draws.tuple (prog := X.prog) (w := X.w) (A := X.A.in1) (I.ok.hd hc) it a hat its.toArray) he ⟨hit, p⟩ hlen hne (by simp; exact ⟨hne, fun z => hae z.symm⟩) fun u h' tk hu ho hit' hT hsz hk => ?_
    obtain ⟨u', hu', ru'⟩ := rv.get hx
    have eu : u = u' := by
      have h1 : its[i]? = some u := by simpa using hu
      rw [h1] at hu'; exact Option.some.inj hu'
    subst eu
    refine ⟨_, rfl, wpAny_letOwnedTupleGo_enum (s := { s with heap := h', toks := tk + 1 }) ho fun h'' he' sb => ?_⟩
    have hT2 : h''.get? s.heap.objs.size = some { cls := .type "tuple", data := .seq #[.int i tk, u] } := (sb.2 _ (Nat.ne_of_gt hel)).trans hT
    have new : ObjOk X.prog X.w (upd H s.heap.objs.size (.tup [.int (i : Nat), x])) h'' s.heap.objs.size (.tup [.int (i : Nat), x]) :=
      ⟨by show 2 ≤ sizeLine; decide, [.int i tk, u], .cons ⟨_, rfl⟩ (.cons ru' .nil), ⟨_, hT2, rfl, _, rfl⟩⟩
    have I1 : Inv X pins σ (upd H s.heap.objs.size (.tup [.int (i : Nat), x])) { s with heap := h'', toks := tk + 1 } :=
      I.turnedNew (ch := [e, it]) (fun b ob hb q => (sb.2 b (fun z => hb (by simp [z]))).trans (hk b ob (fun z => hb (by simp [z])) (fun z => hb (by simp [z])) q)) hf (Nat.le_refl _) new
    refine ⟨.ref s.heap.objs.size, _, I1, rfl, ⟨_, x, rfl, I.hok.fresh (Nat.le_refl _), rfl, fun ys hy => by rw [I.tuple_inj hy hq]; exact hx⟩, ⟨⟨u, ?_⟩, hit'.1.at fun o q => (sb.2 it (Ne.symm hne)).trans q, hne⟩, fun b hb => ?_⟩
    · have e1 : ((i + 1 : Nat) : Int) = (i : Int) + 1 := by omega
      rw [e1]; exact he'
    · have hb' : b < s.heap.objs.size := by
        have e' : b = e ∨ b = it := by simpa using hb
        rcases e' with z | z
        · rw [z]; exact hel
        · rw [z]; exact hil
      rw [upd_ne (Nat.ne_of_lt hb')]
      exact (hf b hb).1
  done := by
    intro X hP hw hK hc i pins s σ H E I hf st hg
    subst hP hw hK
    obtain ⟨⟨old, he⟩, hit, hne⟩ := st
    obtain ⟨xs, hq, hx⟩ := hg
    obtain ⟨its, rv, p, hz⟩ := I.tuple hq
    have p : s.heap.IsTuple a its.toArray := p
    have hat : a ≠ it := tup_ne p hit
    obtain ⟨f0, f1, f2, f3, f4, f5⟩ := hf it (by simp)
    have hlen : its.toArray.size = i := by rw [List.size_toArray, ← rv.length, hx]
    refine wpAny_pyNext_enum_endD (Draws.tuple (prog := X.prog) (w := X.w) (A := X.A.in1) (I.ok.hd hc) it a hat its.toArray) he ?_ fun h' eb => ⟨rfl, I.turned (t' := s.toks) (fun b o hb q => eb b o hb q) f0 f1 f3 f4 f5⟩
    rw [hlen]
    exact ⟨hit, p⟩
  self := fun A i s Q E st h => let ⟨⟨_, he⟩, _⟩ := st; wpAny_pyIter_enum he h
def iEnumT (K : PySem.W.Frag) (ta : TA) : TI := fun σ H R => ta σ H fun vs H1 => ∃ a xs, vs = [.ref a] ∧ SqT K H1 a xs ∧ R (IteT K a) H1
theorem pi_enumT {X : Cx} {e : Expr} {ta : TA} {p pos tpos : Pos} {elts : List Expr} {kk : Nat} (hg : Gl X "enumerate") (hm : X.mg "enumerate" = none) (ha : PA X [e] ta) (hs : starEach [e] X.env = [(false, eval e X.env)] := by rfl) :
    PI X (.Tuple elts kk tpos) (.Call (.Name "enumerate" p) [e] [] pos) (iEnumT X.K ta) := by
  refine ⟨fun pins s σ H R I h => ?_⟩
  refine Call_ (ld_blt I hg hm boot_enumerate (PyProof.Rows.callWith_type1 (thn (ha.run pos pins s σ H _ I h) fun us s1 ⟨vs, H1, I1, r1, q1⟩ => ?_) hs rfl))
  obtain ⟨a, xs, ex, hq, q⟩ := q1
  subst ex
  cases r1 with
  | cons r rr =>
    cases rr
    cases r
    obtain ⟨its, rv, p', hz⟩ := I1.tuple hq
    have hlt : a < s1.heap.objs.size := by obtain ⟨_, e, _⟩ := p'; exact Heap.lt_size e
    refine call_enumerate_tuple p' fun h' he hit hsz hk => wpAny_pyIter_enum he ?_
    have I2 : Inv X pins σ H1 { s1 with heap := h' } := I1.kept (t' := s1.toks) hk
    refine ⟨s1.heap.objs.size + 1, [s1.heap.objs.size + 1, s1.heap.objs.size], _, _, H1, rfl, I2, turn_enumT a (s1.heap.objs.size + 1) s1.heap.objs.size (Nat.ne_of_lt (Nat.lt_succ_of_lt hlt)), ⟨⟨.none, he⟩, hit, Nat.succ_ne_self _⟩, fun b hb => ?_, q⟩
    have e' : b = s1.heap.objs.size + 1 ∨ b = s1.heap.objs.size := by simpa using hb
    have hle : s1.heap.objs.size ≤ b := by
      rcases e' with z | z
      · rw [z]; exact Nat.le_add_right _ _
      · rw [z]; exact Nat.le_refl _
    exact I1.fpOk hle (I1.hok.fresh hle)
theorem walk_enumT {K : PySem.W.Frag} {a : Addr} {xs : List V} : Walk (IteT K a) xs.length (fun H => SqT K H a xs) (YPair (fun i => some (.int (i : Nat))) (fun i => xs[i]?)) := by
  refine ⟨fun i H hi hG => ⟨xs, xs[i], hG, List.getElem?_eq_getElem hi⟩, fun H hG => ⟨xs, hG, rfl⟩, fun i H x H' hi hG y => ?_⟩
  obtain ⟨T, x, e1, e2, e3, e4⟩ := y
  exact ⟨T, _, x, e1, e2, e3, rfl, e4 xs hG⟩

/-! ### tuple.index of an int -/
theorem flat_ints (ns : List Int) : (ns.map V.int).all flatV = true := by
  rw [List.all_map]
  exact List.all_eq_true.mpr fun _ _ => rfl
theorem mt_tindex {X : Cx} : MtR X "tuple.index" (fun x xs H Q => ∃ p, ∃ ys : List Int, ∃ z j, x = .ref p ∧ xs = [.int z] ∧ SqT X.K H p (ys.map V.int) ∧ ys[j]? = some z ∧ (∀ m, m < j → ys[m]? ≠ some z) ∧ Q (.int (j : Nat)) H) := by
  intro pins s σ H x xs v us Q I rx rs h
  obtain ⟨p, ys, z, j, rfl, rfl, hq, hy, hno, q⟩ := h
  cases rx
  obtain ⟨u, rfl, t, rfl⟩ := vals1 rs
  obtain ⟨its, r, pl, hz⟩ := I.tuple hq
  obtain ⟨⟨cls, dd, dt, sl⟩, ho, hc, n, hd⟩ := pl
  simp only at hc hd
  subst hc
  subst hd
  have hl : its.toArray.size = ys.length := by rw [List.size_toArray, ← r.length, List.length_map]
  have hj : j < its.toArray.size := by rw [hl]; exact (List.getElem?_eq_some_iff.mp hy).1
  have at' : ∀ (m : Nat) (hm : m < its.toArray.size), ∃ y t', ys[m]? = some y ∧ its.toArray[m] = Value.int y t' := fun m hm => by
    have hm' : m < ys.length := by rw [← hl]; exact hm
    obtain ⟨w, hw, t', hw'⟩ := r.get (i := m) (x := .int ys[m]) (by simp [hm'])
    refine ⟨ys[m], t', List.getElem?_eq_getElem hm', ?_⟩
    have e := (List.getElem?_eq_some_iff.mp hw).2
    rw [← hw', ← e]
    simp
  refine call_meets PySem.F.slot_tuple_index ⟨_, ho, rfl⟩ PySem.F.entry_tuple_index (PySem.F.args_tuple_index_2 _ _) (TI.tuple_indexAt p its.toArray n dd sl (.int z t) (eqU (.int z)) j hj ?_ ?_)
    ⟨ho, fun w hw => mem_eqAt (x := .int z) ⟨t, rfl⟩ rfl r (flat_ints ys) w (by simpa using hw), ⟨.int (j : Nat), H, I.tok _, ⟨_, rfl⟩, q⟩⟩
  · obtain ⟨y, t', h1, h2⟩ := at' j hj
    rw [hy] at h1
    cases h1
    rw [h2]
    show (z == z) = true
    exact beq_self_eq_true z
  · intro m hm hmj
    obtain ⟨y, t', h1, h2⟩ := at' m hm
    rw [h2]
    show (y == z) = false
    exact beq_eq_false_iff_ne.mpr fun e => hno m hmj (e ▸ h1)

/-! ### rules by the written part K itself (for a comprehension's block) -/
def rLen (K : PySem.W.Frag) : List V → Hp → VK → Prop := fun xs H Q => ∃ p ys, xs = [.ref p] ∧ (SqL K H p ys ∨ SqT K H p ys) ∧ Q (.int ys.length) H
def rTupOf (K : PySem.W.Frag) : List V → Hp → VK → Prop := fun xs H Q => ∃ p ys, xs = [.ref p] ∧ ((SqL K H p ys ∧ ∀ l, H l = none → Q (.ref l) (upd H l (.tup ys))) ∨ (SqT K H p ys ∧ Q (.ref p) H))
def rListOf (K : PySem.W.Frag) : List V → Hp → VK → Prop := fun xs H Q => ∃ p ys, xs = [.ref p] ∧ (SqL K H p ys ∨ SqT K H p ys) ∧ ∀ l, H l = none → Q (.ref l) (upd H l (.lst ys))
section
variable {X : Cx} {K : PySem.W.Frag}
theorem k_len (hK : X.K = K) : CallR X (.builtin "len") (rLen K) := by subst hK; exact call_len_seq
theorem k_tupOf (hK : X.K = K) : CallR X (.type "tuple") (rTupOf K) := by subst hK; exact call_tuple_of
theorem k_listOf (hK : X.K = K) : CallR X (.type "list") (rListOf K) := by subst hK; exact call_list_of
theorem k_isi (hK : X.K = K) : CallR X (.builtin "isinstance") (rIsi K) := by subst hK; exact call_isi
theorem k_ixT (hK : X.K = K) : IxR X (rIxT K) := by subst hK; exact ix_tup
theorem k_ixL (hK : X.K = K) : IxR X (rIxL K) := by subst hK; exact ix_list
theorem k_slT (hK : X.K = K) : SlR X (rSlA K) := by subst hK; exact sl_tupA
theorem k_catT (hK : X.K = K) : OpR X (binaryOp .Add) (rCatA K) := by subst hK; exact op_catA
theorem k_sumT (hK : X.K = K) (hc : X.calm = true) : CallR X (.builtin "sum") (rSumT K) := by subst hK; exact cr_sumT hc
end

/-! ### a statement, then the rest, with a word between them -/
def tCut (t u : TS) : TS := fun D σ H => ∃ Mid : L2.St → Hp → Prop, t { D with nx := Mid } σ H ∧ ∀ σ' H', Mid σ' H' → u D σ' H'
theorem pss_cut {X : Cx} {st : Stmt} {rest : List Stmt} {t u : TS} (h1 : PS X st t) (h2 : PSs X rest u) : PSs X (st :: rest) (tCut t u) := by
  refine ⟨fun pins s σ H D I h => ?_⟩
  obtain ⟨Mid, hm, hu⟩ := h
  refine wpAny_execs_cons (thn (h1.run pins s σ H { D with nx := Mid } I hm) fun f s1 q => ?_)
  cases f with
  | next =>
    obtain ⟨σ', H', I', q⟩ := q
    exact h2.run pins s1 σ' H' D I' (hu σ' H' q)
  | ret v => exact q
  | brk => exact q
  | cont => exact q

/-! ### a tuple that is known to be plain; its method index -/
def rTupOfZ (K : PySem.W.Frag) : List V → Hp → VK → Prop := fun xs H Q => ∃ p ys, xs = [.ref p] ∧ SqL K H p ys ∧ ∀ l o, H l = none → o.dict = none → Q (.ref l) (upd H l (.frz o (.tup ys)))
theorem k_tupOfZ {X : Cx} {K : PySem.W.Frag} (hK : X.K = K) : CallR X (.type "tuple") (rTupOfZ K) := by
  subst hK
  intro pins s σ H xs us Q I r h
  obtain ⟨p, ys, rfl, hq, q⟩ := h
  obtain ⟨u, rfl, rx⟩ := vals1 r
  cases rx
  obtain ⟨its, r', pl, hz⟩ := I.list hq
  have hlen := r'.length
  refine call_tuple_list pl.isList (fun h' kp => ?_) (by simp only [List.size_toArray] <;> omega)
  have I1 : Inv X pins σ H { s with heap := h' } := I.kept (t' := s.toks) kp
  have I2 : Inv X pins σ (upd H h'.objs.size (.frz { cls := .type "tuple", data := .seq its.toArray } (.tup ys))) { s with heap := h'.push { cls := .type "tuple", data := .seq its.toArray } } :=
    I1.laid (t' := s.toks) (fun b o e => Heap.get?_push_of_some _ e) (Nat.le_refl _) (show ObjOk X.prog X.w _ _ _ (.frz _ (.tup ys)) from ⟨Heap.get?_push_size _ rfl, hz, its, r', IsTup.new _ _⟩)
  exact ⟨.ref h'.objs.size, _, I2, rfl, q _ _ (I1.hok.fresh (Nat.le_refl _)) rfl⟩
def tTM (r : V → List V → Hp → VK → Prop) (to : TE) (t : TA) : TE := fun σ H Q => to σ H fun x H1 => (∃ a ob xs, x = .ref a ∧ H1 a = some (.frz ob (.tup xs)) ∧ ob.dict = none) ∧ t σ H1 fun xs H2 => r x xs H2 Q
theorem pe_tm {X : Cx} {o e : Expr} {es : List Expr} {to : TE} {t : TA} {name : Str} {apos cpos : Pos} {id : String} {r : V → List V → Hp → VK → Prop} (slot : Slot "tuple" name id) (hty : typeOf (.builtin id) = pure (.type "method_descriptor")) (hm : MtR X id r) (ho : PE X o to) (ha : PA X (e :: es) t)
    (hbase : attributeBase o name X.env (eval o X.env) = eval o X.env := by rfl)
    (hfew : ((backTo cpos (starEach (e :: es) X.env)).all (fun x => !x.1) && (backToKw cpos (keywordEach [] X.env)).all (fun x => x.1.isSome)
      && decide ((e :: es).length + ([] : List Keyword).length + (if ([] : List Keyword).isEmpty then 0 else 1) < 30)) = true := by rfl)
    (hline : (apos.endLine == cpos.line) = true := by rfl) (hs : starEach (e :: es) X.env = (false, eval e X.env) :: starEach es X.env := by rfl) (hplain : (backTo cpos (starEach es X.env)).any (·.1) = false := by rfl) :
    PE X (.Call (.Attribute o name apos) (e :: es) [] cpos) (tTM r to t) := by
  refine ⟨fun pins s σ H Q I h => ?_⟩
  refine wpAny_Call_method_late hbase hfew hline rfl (thn (ho.run pins s σ H _ I h) fun v s1 ⟨x, H1, I1, r1, ty, q1⟩ => ?_)
  obtain ⟨a, ob, xs, rfl, hf, hd⟩ := ty
  cases r1
  obtain ⟨hg, hz, its, rv, o', ho', hc, _⟩ := (show ObjOk X.prog X.w H1 s1.heap a (.frz ob (.tup xs)) from I1.hok a _ hf)
  have hc' : ob.cls = .type "tuple" := by rw [hg] at ho'; cases ho'; exact hc
  refine ⟨"tuple", id, PySem.F.plainAttrs_tuple, slot, hty, ⟨ob, hg, hc'⟩, fun b e => by cases e; exact ⟨ob, hg, hd⟩, ?_⟩
  have hA := ha.run cpos pins s1 σ H1 _ I1 q1
  rw [hs] at hA ⊢
  refine Calls.callWith_builtin (by show (false || (backTo cpos (starEach es X.env)).any (·.1)) = false; rw [hplain] <;> rfl) (Calls.evalArgs_plain ?_)
  exact thn hA fun us s2 ⟨vs, H2, I2, r2, q2⟩ => hm pins s2 σ H2 (.ref a) vs (.ref a) us Q I2 rfl r2 q2

/-! ### places in the text -/
def xAsg : Stmt → Expr
  | .Assign _ e _ => e
  | _ => .Constant .none 0 ⟨0, 0, 0, 0⟩
def xArg (i : Nat) : Expr → Expr
  | .Call _ as _ _ => as.getD i (.Constant .none 0 ⟨0, 0, 0, 0⟩)
  | _ => .Constant .none 0 ⟨0, 0, 0, 0⟩
def xLcSc : Expr → Scope
  | .ListComp _ _ sc _ => sc
  | _ => { kind := .function, names := [], isGenerator := false, isCoroutine := false }
/-! ### readings are monotone -/
theorem mono_pair {K : PySem.W.Frag} {n i j : Nat} (x : V) (σ' : L2.St) (H' : Hp) (Q Q' : L2.St → Hp → Prop) (h : ∀ a b, Q a b → Q' a b) (e : gTup K n (gCons (gName i) (gCons (gName j) gNil)) x σ' H' Q) : gTup K n (gCons (gName i) (gCons (gName j) gNil)) x σ' H' Q' := by
  obtain ⟨a, xs, e1, e2, e3, v, r, e4, v', r', e5, e6, q⟩ := e
  exact ⟨a, xs, e1, e2, e3, v, r, e4, v', r', e5, e6, h _ _ q⟩

section
variable {X : Cx} {K : PySem.W.Frag}
theorem k_piL {tg l : Expr} {tl : TE} (hK : X.K = K) (hl : PE X l tl) : PI X tg l (iList K tl) := by subst hK; exact pi_list hl
theorem k_piT {tg l : Expr} {tl : TE} (hK : X.K = K) (hl : PE X l tl) : PI X tg l (iTup K tl) := by subst hK; exact pi_tup hl
theorem k_pgT2 {x y : Str} {px py : Pos} {k : Nat} {pos : Pos} {t1 t2 : TG} (hK : X.K = K) (hc : X.calm = true) (h1 : PG X (.Name x px) t1) (h2 : PG X (.Name y py) t2) : PG X (.Tuple [.Name x px, .Name y py] k pos) (gTup K 2 (gCons t1 (gCons t2 gNil))) := by
  subst hK
  exact pg_tup hc (pgs_cons h1 (pgs_cons h2 pgs_nil))
end
end MB

set_option maxHeartbeats 4000000
namespace MB
open PySem PySem.Spec PyProof.Rows L2

/-! ### heaps -/
theorem same_upd {H : Hp} {p : Addr} {o : HO} (h : H p = none) : Same H (upd H p o) := fun b x e => by
  rw [upd_ne (ne_of_none e h)]
  exact e
/-- an object that was not tracked may change -/
theorem Same.mut {H H' : Hp} {p : Addr} {o : HO} (s : Same H H') (h : H p = none) : Same H (upd H' p o) := fun b x e => by
  rw [upd_ne (ne_of_none e h)]
  exact s _ _ e
theorem Same.tup {K : PySem.W.Frag} {H H' : Hp} {a : Addr} {xs : List V} (e : Same H H') (h : SqT K H a xs) : SqT K H' a xs := by
  rcases h with (h | ⟨o, h⟩) | h
  · exact .inl (.inl (e _ _ h))
  · exact .inl (.inr ⟨o, e _ _ h⟩)
  · exact .inr h
theorem Same.tupF {K : PySem.W.Frag} {H H' : Hp} {a : Addr} {o : Obj} {xs : List V} (e : Same H H') (h : H a = some (.frz o (.tup xs))) : SqT K H' a xs := .inl (.inr ⟨o, e _ _ h⟩)
theorem Dp.same {K : PySem.W.Frag} {H H' : Hp} (e : Same H H') : ∀ {v : V} {d : PyData}, Dp K H v d → Dp K H' v d := by
  intro v d h
  refine Dp.rec (motive_1 := fun v d _ => Dp K H' v d) (motive_2 := fun vs ds _ => DpAll K H' vs ds) ?_ ?_ ?_ ?_ ?_ ?_ ?_ ?_ h
  · exact .non
  · intro b; exact .bl b
  · intro i; exact .int i
  · intro x; exact .str x
  · intro a xs ds hs _ ih; exact .lst (e.seq hs) ih
  · intro a xs ds hs _ ih; exact .tup (Same.tup e hs) ih
  · exact .nil
  · intro v vs d ds _ _ h1 h2; exact .cons h1 h2
theorem DpAll.get {K : PySem.W.Frag} {H : Hp} : ∀ {vs : List V} {ds : List PyData}, DpAll K H vs ds → ∀ {i : Nat} {d : PyData}, ds[i]? = some d → ∃ v, vs[i]? = some v ∧ Dp K H v d
  | _, _, .nil, i, d, h => by simp at h
  | _, _, .cons a b, 0, d, h => by
    simp at h; subst h
    exact ⟨_, rfl, a⟩
  | _, _, .cons a b, i + 1, d, h => by
    obtain ⟨v, h1, h2⟩ := DpAll.get b (i := i) (d := d) (by simpa using h)
    exact ⟨v, by simpa using h1, h2⟩
theorem DpAll.len {K : PySem.W.Frag} {H : Hp} : ∀ {vs : List V} {ds : List PyData}, DpAll K H vs ds → vs.length = ds.length
  | _, _, .nil => rfl
  | _, _, .cons a b => by simp [DpAll.len b]
theorem DpAll.take {K : PySem.W.Frag} {H : Hp} : ∀ {vs : List V} {ds : List PyData} (n : Nat), DpAll K H vs ds → DpAll K H (vs.take n) (ds.take n)
  | _, _, 0, _ => .nil
  | _, _, _ + 1, .nil => .nil
  | _, _, n + 1, .cons a b => .cons a (DpAll.take n b)
theorem DpAll.append {K : PySem.W.Frag} {H : Hp} : ∀ {vs ws : List V} {ds es : List PyData}, DpAll K H vs ds → DpAll K H ws es → DpAll K H (vs ++ ws) (ds ++ es)
  | _, _, _, _, .nil, s => s
  | _, _, _, _, .cons a b, s => .cons a (DpAll.append b s)
theorem DpAll.same {K : PySem.W.Frag} {H H' : Hp} (e : Same H H') : ∀ {vs : List V} {ds : List PyData}, DpAll K H vs ds → DpAll K H' vs ds
  | _, _, .nil => .nil
  | _, _, .cons a b => .cons (Dp.same e a) (DpAll.same e b)
theorem dp_ints {K : PySem.W.Frag} {H : Hp} : ∀ ns : List Int, DpAll K H (ns.map V.int) (ns.map PyData.int)
  | [] => .nil
  | n :: ns => .cons (.int n) (dp_ints ns)
theorem ty_tup {K : PySem.W.Frag} {H : Hp} {a : Addr} {xs : List V} (h : SqT K H a xs) : TyX K H (.ref a) (.type "tuple") := by
  rcases h with (h | ⟨o, h⟩) | ⟨o, its, n, h, hc, _⟩
  · exact .base (.tup h)
  · exact .fTuple h
  · exact .kTuple h hc

/-! ### lists of numbers -/
def vi (p : List Nat) : List V := p.map fun (m : Nat) => V.int (m : Int)
def ci (p : List Nat) : List Int := p.map fun (m : Nat) => (m : Int)
theorem vi_ci (p : List Nat) : vi p = (ci p).map V.int := by simp [vi, ci]
theorem vi_len (p : List Nat) : (vi p).length = p.length := by simp [vi]
theorem vi_get {p : List Nat} {i m : Nat} (h : p[i]? = some m) : (vi p)[i]? = some (.int (m : Int)) := by simp [vi, h]
theorem vi_app (p q : List Nat) : vi (p ++ q) = vi p ++ vi q := by simp [vi]
theorem at_vi {p : List Nat} {i m : Nat} (h : p[i]? = some m) : atI (vi p) (i : Int) = some (.int (m : Int)) := atI_nat (vi_get h)
theorem sz60 {n : Nat} (h : n ≤ 100000) : n ≤ sizeLine := Nat.le_trans h (by decide)
theorem sz61 {n : Nat} (h : n ≤ 100000) : n < sizeLine := Nat.lt_of_le_of_lt h (by decide)
theorem decT {c : Prop} [Decidable c] (h : c) {A B : Prop} (a : A) : if decide c = true then A else B := by
  rw [if_pos (decide_eq_true h)]; exact a
theorem decF {c : Prop} [Decidable c] (h : ¬ c) {A B : Prop} (b : B) : if decide c = true then A else B := by
  rw [if_neg (by simp [h])]; exact b

/-! ### data of tuples: no list within -/
inductive Tf : PyData → Prop
  | non : Tf .none
  | bl (b : Bool) : Tf (.bool b)
  | int (i : Int) : Tf (.int i)
  | str (x : Str) : Tf (.str x)
  | tup {ds : List PyData} : (∀ d, d ∈ ds → Tf d) → Tf (.tuple ds)
theorem Tf.items {ds : List PyData} (h : Tf (.tuple ds)) : ∀ d, d ∈ ds → Tf d := by
  cases h with
  | tup h => exact h
theorem tf_ints (ns : List Int) : ∀ d, d ∈ ns.map PyData.int → Tf d := fun d h => by
  obtain ⟨i, _, rfl⟩ := List.mem_map.mp h
  exact .int i
/-- all tuples stay -/
def Keep (K : PySem.W.Frag) (H H' : Hp) : Prop := ∀ a xs, SqT K H a xs → SqT K H' a xs
theorem Keep.of {K : PySem.W.Frag} {H H' : Hp} (s : Same H H') : Keep K H H' := fun _ _ h => Same.tup s h
theorem Keep.trans {K : PySem.W.Frag} {H H1 H2 : Hp} (a : Keep K H H1) (b : Keep K H1 H2) : Keep K H H2 := fun _ _ h => b _ _ (a _ _ h)
theorem Keep.refl {K : PySem.W.Frag} {H : Hp} : Keep K H H := fun _ _ h => h
/-- all but the list at l stay -/
def But (l : Addr) (H H' : Hp) : Prop := ∀ b o, b ≠ l → H b = some o → H' b = some o
theorem But.refl {l : Addr} {H : Hp} : But l H H := fun _ _ _ h => h
theorem But.trans {l : Addr} {H H1 H2 : Hp} (a : But l H H1) (b : But l H1 H2) : But l H H2 := fun c o n h => b c o n (a c o n h)
theorem But.of {l : Addr} {H H' : Hp} (s : Same H H') : But l H H' := fun c o _ h => s c o h
theorem But.upd {l : Addr} {H : Hp} {o : HO} : But l H (L2.upd H l o) := fun c u n h => by rw [upd_ne n]; exact h
theorem But.keep {K : PySem.W.Frag} {l : Addr} {H H' : Hp} {ys : List V} (s : But l H H') (hl : H l = some (.lst ys)) : Keep K H H' := fun a xs h => by
  rcases h with (h | ⟨o, h⟩) | h
  · exact .inl (.inl (s _ _ (fun e => by rw [e, hl] at h; cases h) h))
  · exact .inl (.inr ⟨o, s _ _ (fun e => by rw [e, hl] at h; cases h) h⟩)
  · exact .inr h
theorem But.same {l : Addr} {H0 H H' : Hp} (s : Same H0 H) (b : But l H H') (n : H0 l = none) : Same H0 H' := fun c o e => b c o (ne_of_none e n) (s c o e)
theorem Dp.keep {K : PySem.W.Frag} {H H' : Hp} (e : Keep K H H') : ∀ {v : V} {d : PyData}, Tf d → Dp K H v d → Dp K H' v d := by
  intro v d t h
  refine Dp.rec (motive_1 := fun v d _ => Tf d → Dp K H' v d) (motive_2 := fun vs ds _ => (∀ d, d ∈ ds → Tf d) → DpAll K H' vs ds) ?_ ?_ ?_ ?_ ?_ ?_ ?_ ?_ h t
  · intro _; exact .non
  · intro b _; exact .bl b
  · intro i _; exact .int i
  · intro x _; exact .str x
  · intro a xs ds hs _ ih t; cases t
  · intro a xs ds hs _ ih t; exact .tup (e _ _ hs) (ih t.items)
  · intro _; exact .nil
  · intro v vs d ds _ _ h1 h2 t; exact .cons (h1 (t _ (List.mem_cons_self ..))) (h2 fun d hd => t d (List.mem_cons_of_mem _ hd))
theorem DpAll.keep {K : PySem.W.Frag} {H H' : Hp} (e : Keep K H H') : ∀ {vs : List V} {ds : List PyData}, (∀ d, d ∈ ds → Tf d) → DpAll K H vs ds → DpAll K H' vs ds
  | _, _, _, .nil => .nil
  | _, _, t, .cons a b => .cons (Dp.keep e (t _ (List.mem_cons_self ..)) a) (DpAll.keep e (fun d hd => t d (List.mem_cons_of_mem _ hd)) b)
theorem dp_ints_inv {K : PySem.W.Frag} {H : Hp} : ∀ {ns : List Int} {vs : List V}, DpAll K H vs (ns.map PyData.int) → vs = ns.map V.int
  | [], _, .nil => rfl
  | n :: ns, _, .cons a b => by
    cases a
    rw [dp_ints_inv b]
    rfl
theorem Dp.tupInv {K : PySem.W.Frag} {H : Hp} {v : V} {ds : List PyData} (h : Dp K H v (.tuple ds)) : ∃ a xs, v = .ref a ∧ SqT K H a xs ∧ DpAll K H xs ds := by
  cases h with
  | tup h1 h2 => exact ⟨_, _, rfl, h1, h2⟩
theorem Dp.intsInv {K : PySem.W.Frag} {H : Hp} {v : V} {ns : List Int} (h : Dp K H v (.tuple (ns.map PyData.int))) : ∃ a, v = .ref a ∧ SqT K H a (ns.map V.int) := by
  obtain ⟨a, xs, e, h1, h2⟩ := Dp.tupInv h
  rw [dp_ints_inv h2] at h1
  exact ⟨a, e, h1⟩

/-! ### a comprehension that gives an item at each turn -/
theorem lc_all {K : PySem.W.Frag} {J : It} {n : Nat} {G : Hp → Prop} {Y : Nat → Hp → V → Hp → Prop} (w : Walk J n G Y) {g : TG} {tt : TT} {te : TE} {vs : List Nat} {σ : L2.St} {H1 : Hp} {D : Addr} {Qd : Hp → Prop}
    (ds : List PyData) (hl : ds.length = n) (ht : ∀ d, d ∈ ds → Tf d) (hn : n ≤ 1000) (hD : H1 D = none) (hG : ∀ H, Same H1 H → G H)
    (hs : ∀ i x H H', i < n → Same H1 H → Y i H x H' → ∀ d, ds[i]? = some d → ∀ R : V → Hp → Prop, (∀ y H4, Same H H4 → Dp K H4 y d → R y H4) →
      g x (wipe σ vs) H' fun σ2 H2 => wipe σ2 vs = wipe σ vs ∧ tt σ2 H2 fun b H3 => b = true ∧ te σ2 H3 R)
    (hd : ∀ H acc, Same H1 H → H D = some (.lst acc) → DpAll K H acc ds → Qd H)
    (mg : ∀ x σ' H' (Q Q' : L2.St → Hp → Prop), (∀ a b, Q a b → Q' a b) → g x σ' H' Q → g x σ' H' Q') (mt : ∀ σ' H' (Q Q' : Bool → Hp → Prop), (∀ a b, Q a b → Q' a b) → tt σ' H' Q → tt σ' H' Q') :
    ∃ W : Nat → Nat → Hp → Prop, (∃ m, W 0 m (upd H1 D (.lst []))) ∧ ∀ i m H, W i m H →
      (J.stop i H ∧ Qd H) ∨ (J.go i H ∧ ∃ Nx : Hp → Prop, (∀ H', Nx H' → ∃ m', m' < m ∧ W (i + 1) m' H') ∧ ∀ x H', J.yld i H x H' → g x (wipe σ vs) H' fun σ2 H2 => wipe σ2 vs = wipe σ vs ∧ tt σ2 H2 fun b H3 =>
        if b = true then te σ2 H3 fun y H4 => ∃ acc, H4 D = some (.lst acc) ∧ acc.length < sizeLine ∧ Nx (upd H4 D (.lst (acc ++ [y]))) else Nx H3) := by
  refine lc_it w (fun i H => Same H1 H ∧ ∃ acc, H D = some (.lst acc) ∧ DpAll K H acc (ds.take i)) ⟨same_upd hD, [], upd_same, .nil⟩ (fun i H _ h => hG H h.1) ?_ ?_
  · rintro i x H H' hi ⟨s1, acc, ha, hA⟩ hy
    have hd' : ds[i]? = some ds[i] := List.getElem?_eq_getElem (by omega)
    have hlen := DpAll.len hA
    rw [List.length_take] at hlen
    refine mg _ _ _ _ _ ?_ (hs i x H H' hi s1 hy ds[i] hd' (fun y H4 => ∃ acc, H4 D = some (.lst acc) ∧ acc.length < sizeLine ∧ (Same H1 (upd H4 D (.lst (acc ++ [y]))) ∧ ∃ acc', (upd H4 D (.lst (acc ++ [y]))) D = some (.lst acc') ∧ DpAll K (upd H4 D (.lst (acc ++ [y]))) acc' (ds.take (i + 1)))) ?_)
    · rintro σ2 H2 ⟨h1, h2⟩
      refine ⟨h1, mt _ _ _ _ ?_ h2⟩
      rintro b H3 ⟨rfl, h3⟩
      exact iteT h3
    · intro y H4 s4 hy4
      refine ⟨acc, s4 _ _ ha, sz61 (by omega), Same.mut (s1.trans s4) hD, acc ++ [y], upd_same, ?_⟩
      have kp : Keep K H4 (upd H4 D (.lst (acc ++ [y]))) := But.keep But.upd (s4 _ _ ha)
      rw [List.take_add_one, hd']
      refine DpAll.keep kp (fun d h => ?_) (DpAll.append (DpAll.same s4 hA) (.cons hy4 .nil))
      rcases List.mem_append.mp h with h | h
      · exact ht d (List.mem_of_mem_take h)
      · have e : d = ds[i] := by simpa using h
        rw [e]; exact ht _ (List.getElem_mem ..)
  · rintro H ⟨s1, acc, ha, hA⟩
    rw [List.take_of_length_le (by omega)] at hA
    exact hd H acc s1 ha hA

/-! ### tuples cut and joined -/
theorem cut_to {xs : List V} {k : Nat} (h : k ≤ xs.length) : cutV xs none (some (k : Int)) = xs.take k := by
  unfold cutV
  rw [HT.sIx_none, HT.sIx_nat, Nat.min_eq_left h]
  simp
theorem cut_from {xs : List V} {k : Nat} (h : k ≤ xs.length) : cutV xs (some (k : Int)) none = xs.drop k := by
  unfold cutV
  rw [HT.sIx_none, HT.sIx_nat, Nat.min_eq_left h]
  rw [List.take_of_length_le (by rw [List.length_drop]; omega)]
theorem sl_read {K : PySem.W.Frag} {H : Hp} {a : Addr} {xs : List V} {lo hi : Option Int} {Q : VK} (h : SqT K H a xs) (q : ∀ p H', Same H H' → SqT K H' p (cutV xs lo hi) → Q (.ref p) H') : rSlA K (.ref a) lo hi H Q := by
  refine ⟨a, xs, rfl, h, fun e => q a H (Same.refl H) ?_, fun _ p hp => q p _ (same_upd hp) (.inl (.inl upd_same))⟩
  unfold cutV
  rw [e.1, e.2]
  simpa using h
theorem cat_read {K : PySem.W.Frag} {H : Hp} {a b : Addr} {xs ys : List V} {Q : VK} (ha : SqT K H a xs) (hb : SqT K H b ys) (hz : xs.length + ys.length ≤ 100000) (q : ∀ p H', Same H H' → SqT K H' p (xs ++ ys) → Q (.ref p) H') : rCatA K (.ref a) (.ref b) H Q := by
  refine ⟨a, b, xs, ys, rfl, rfl, ha, hb, sz60 hz, fun e => q b H (Same.refl H) ?_, fun _ e => q a H (Same.refl H) ?_, fun _ _ p hp => q p _ (same_upd hp) (.inl (.inl upd_same))⟩
  · rw [e]; exact hb
  · rw [e, List.append_nil]; exact ha
theorem DpAll.snoc {K : PySem.W.Frag} {H : Hp} : ∀ {vs : List V} {ds : List PyData} {d : PyData}, DpAll K H vs (ds ++ [d]) → ∃ us v, vs = us ++ [v] ∧ DpAll K H us ds ∧ Dp K H v d
  | _, [], _, .cons a .nil => ⟨[], _, rfl, .nil, a⟩
  | _, _ :: ds, _, .cons a b => by
    obtain ⟨us, v, e, h1, h2⟩ := DpAll.snoc b
    exact ⟨_ :: us, v, by rw [e]; rfl, .cons a h1, h2⟩
theorem ixN_of {n j : Nat} (hj : j < n) : ixN n (j : Int) = some j := by
  unfold ixN
  rw [if_pos (by omega), if_pos (by omega)]
  simp
theorem vi_set (c : List Nat) (k v : Nat) : (vi c).set k (.int (v : Int)) = vi (c.set k v) := by
  unfold vi
  rw [List.map_set]
theorem vi_rep (n v : Nat) : vi (List.replicate n v) = List.replicate n (.int (v : Int)) := by simp [vi]

/-! ### [x for x in range(lo, hi) if ..] -/
theorem lc_fil {lo : Int} {n j : Nat} {vs : List Nat} {σ : L2.St} {H1 : Hp} {D : Addr} {Qd : Hp → Prop} {tt : TT} (f : Nat → Bool) (hn : n ≤ 1000) (hD : H1 D = none)
    (hw : ∀ x, wipe ((wipe σ vs).set j (some x)) vs = wipe σ vs) (hj : ∀ x : V, ((wipe σ vs).set j (some x))[j]? = some (some x))
    (ht : ∀ (i : Nat) H (Q : Bool → Hp → Prop), i < n → Same H1 H → Q (f i) H → tt ((wipe σ vs).set j (some (.int (lo + (i : Nat))))) H Q)
    (hd : ∀ H, Same H1 H → H D = some (.lst (((List.range n).filter f).map fun (i : Nat) => V.int (lo + (i : Nat)))) → Qd H) :
    ∃ W : Nat → Nat → Hp → Prop, (∃ m, W 0 m (upd H1 D (.lst []))) ∧ ∀ i m H, W i m H →
      ((Itr lo n).stop i H ∧ Qd H) ∨ ((Itr lo n).go i H ∧ ∃ Nx : Hp → Prop, (∀ H', Nx H' → ∃ m', m' < m ∧ W (i + 1) m' H') ∧ ∀ x H', (Itr lo n).yld i H x H' → gName j x (wipe σ vs) H' fun σ2 H2 => wipe σ2 vs = wipe σ vs ∧ tt σ2 H2 fun b H3 =>
        if b = true then tVar j σ2 H3 fun y H4 => ∃ acc, H4 D = some (.lst acc) ∧ acc.length < sizeLine ∧ Nx (upd H4 D (.lst (acc ++ [y]))) else Nx H3) := by
  refine lc_range (lo := lo) (n := n) (fun i H => Same H1 H ∧ H D = some (.lst (((List.range i).filter f).map fun (i : Nat) => V.int (lo + (i : Nat))))) ⟨same_upd hD, upd_same⟩ ?_ ?_
  · rintro i H hi ⟨s1, h1⟩
    refine ⟨hw _, ht i H _ hi s1 ?_⟩
    have hlen : (((List.range i).filter f).map fun (i : Nat) => V.int (lo + (i : Nat))).length ≤ i := by
      rw [List.length_map]
      have := List.length_filter_le f (List.range i)
      rw [List.length_range] at this
      exact this
    by_cases hf : f i = true
    · rw [hf]
      refine iteT ⟨_, hj _, _, h1, sz61 (by omega), Same.mut s1 hD, ?_⟩
      rw [List.range_succ, List.filter_append, List.map_append]
      simp only [List.filter_cons, hf, if_true, List.filter_nil, List.map_cons, List.map_nil]
      exact upd_same
    · have hf' : f i = false := by simpa using hf
      rw [hf']
      refine iteF ⟨s1, ?_⟩
      rw [List.range_succ, List.filter_append, List.map_append]
      simpa [hf'] using h1
  · rintro H ⟨s1, h1⟩
    exact hd H s1 h1
theorem iteB1 {b : Bool} {A B : Prop} (h : b = true) (a : A) : if b = true then A else B := by rw [if_pos h]; exact a
theorem iteB0 {b : Bool} {A B : Prop} (h : b = false) (a : B) : if b = true then A else B := by rw [if_neg (by rw [h]; decide)]; exact a

/-! ### deep comparisons -/
theorem lay_all : ∀ {ds : List PyData}, (∀ d, d ∈ ds → d.canLay0 = true) → PyData.canLayAll0 ds = true
  | [], _ => by simp [PyData.canLayAll0]
  | d :: ds, h => by
    simp only [PyData.canLayAll0]
    rw [h d (List.mem_cons_self ..), lay_all fun e he => h e (List.mem_cons_of_mem _ he)]; rfl
theorem dep_all {k : Nat} : ∀ {ds : List PyData}, (∀ d, d ∈ ds → d.depth ≤ k) → PyData.depthAll ds ≤ k
  | [], _ => by simp [PyData.depthAll]
  | d :: ds, h => by
    simp only [PyData.depthAll]
    have h1 := h d (List.mem_cons_self ..)
    have h2 := dep_all (k := k) fun e he => h e (List.mem_cons_of_mem _ he)
    omega
/-- plain data of at most so many levels -/
def Sh (k : Nat) (d : PyData) : Prop := d.canLay0 = true ∧ d.depth ≤ k
theorem Sh.shaped {k : Nat} {d : PyData} (h : Sh k d) (hk : k ≤ 64) : SeqAt.shaped d = true := by
  unfold SeqAt.shaped
  rw [h.1, decide_eq_true (by have := h.2; omega)]; rfl
theorem Sh.tup {k : Nat} {ds : List PyData} (h : ∀ d, d ∈ ds → Sh k d) : Sh (k + 1) (.tuple ds) :=
  ⟨by simp only [PyData.canLay0]; exact lay_all fun d hd => (h d hd).1, by simp only [PyData.depth]; have := dep_all (k := k) (ds := ds) fun d hd => (h d hd).2; omega⟩
theorem Sh.lst {k : Nat} {ds : List PyData} (h : ∀ d, d ∈ ds → Sh k d) : Sh (k + 1) (.list ds) :=
  ⟨by simp only [PyData.canLay0]; exact lay_all fun d hd => (h d hd).1, by simp only [PyData.depth]; have := dep_all (k := k) (ds := ds) fun d hd => (h d hd).2; omega⟩
theorem Sh.int (i : Int) {k : Nat} : Sh k (.int i) := ⟨by simp [PyData.canLay0], by simp [PyData.depth]⟩
theorem Sh.ints {k : Nat} (ns : List Int) : ∀ d, d ∈ ns.map PyData.int → Sh k d := fun d h => by
  obtain ⟨i, _, rfl⟩ := List.mem_map.mp h
  exact .int i
theorem eq_data {K : PySem.W.Frag} {H : Hp} {x y : V} {d : PyData} {Q : VK} {k : Nat} (hx : Dp K H x d) (hy : Dp K H y d) (hs : Sh k d) (hk : k ≤ 64) (q : Q (.bl true) H) : rEqD K x y H Q :=
  ⟨d, d, hx, hy, hs.shaped hk, hs.shaped hk, by rw [SeqAt.eqv_refl d hs.1]; exact q⟩
theorem ne_data {K : PySem.W.Frag} {H : Hp} {x y : V} {d : PyData} {Q : VK} {k : Nat} (hx : Dp K H x d) (hy : Dp K H y d) (hs : Sh k d) (hk : k ≤ 64) (q : Q (.bl false) H) : rNeD K x y H Q :=
  ⟨d, d, hx, hy, hs.shaped hk, hs.shaped hk, by rw [SeqAt.eqv_refl d hs.1]; exact q⟩
theorem dp_tup {K : PySem.W.Frag} {H : Hp} {a : Addr} {ns : List Int} (h : SqT K H a (ns.map V.int)) : Dp K H (.ref a) (.tuple (ns.map PyData.int)) := .tup h (dp_ints ns)
theorem ne_ints {K : PySem.W.Frag} {H : Hp} {a b : Addr} {ns : List Int} {Q : VK} (ha : SqT K H a (ns.map V.int)) (hb : SqT K H b (ns.map V.int)) (q : Q (.bl false) H) : rNeD K (.ref a) (.ref b) H Q :=
  ne_data (dp_tup ha) (dp_tup hb) (Sh.tup (k := 0) (Sh.ints ns)) (by decide) q
end MB

set_option maxHeartbeats 4000000
namespace MB
open PySem PySem.Spec PyProof.Rows L2

/-! ### a def called where no repr is under way -/
structure FnG (P : Program) (w : World) (K : PySem.W.Frag) (mg : Str → Option Value) (base : Heap) (CX : CXT) (k : Nat) (f : Addr) (fd : FuncData) (ps : List Str) (sp : Sp) : Prop where
  len : ∀ vs H Q E, sp vs H Q E → vs.length = ps.length
  run : ∀ (A : Around), A.guards = some [] → Room k A → ∀ (outer : List Env) (s : Shared) (H : Hp) (args : Args) (us : List Value) (vs : List V) (Q : VK) (E : XK),
    Env0 P w K mg base A outer s H → BindsTo s fd args (ps.zip us) → Vals vs us → sp vs H Q E → codeAny (model P w) A (.call (.ref f) args) (CR CX outer P w H s Q E) s
section
variable {P : Program} {w : World} {K : PySem.W.Frag} {mg : Str → Option Value} {base : Heap} {CX : CXT} {k : Nat} {f : Addr} {fd : FuncData} {ps : List Str} {sp : Sp}
theorem FnG.of (F : FnOk P w K mg base CX k f fd ps sp) : FnG P w K mg base CX k f fd ps sp :=
  ⟨F.len, fun A _ hr outer s H args us vs Q E => F.run A outer s H args us vs Q E hr⟩
theorem deeper_guards {A : Around} {env : Env} (h : A.guards = some []) : (A.deeper env).guards = some [] := h
theorem fnG_of {name qual : Str} {params : Arguments} {body : List Stmt} {scope : Scope} {dV kV doc pm cdv ct oc : Value} {an od : Option Addr} {osl : Array (Option Value)} {N : List Str}
    (lk : K.lookup f = some ⟨oc, od, .func (PySem.W.fnOf name qual params body scope dV kV doc pm an cdv ct), osl⟩) (hcd : PySem.W.codeIn K cdv qual = true) (S : FnScope N ps scope)
    (len : ∀ vs H Q E, sp vs H Q E → vs.length = ps.length)
    (hbody : ∀ (A : Around), A.guards = some [] → ∀ (outer : List Env) (s : Shared) (H : Hp) (vs : List V) (Q : VK) (E : XK), Room k (A.deeper (envOfC qual scope s.heap.objs.size f cdv)) → sp vs H Q E →
      ∃ t, PSs (cxOf CX P w K mg base N qual scope f cdv A outer s H E) body t ∧ t { nx := fun _ H' => Q .non H', rt := Q } (start N vs) H) :
    FnG P w K mg base CX (k + 1) f (PySem.W.fnOf name qual params body scope dV kV doc pm an cdv ct) ps sp := by
  refine ⟨len, fun A hgd hr outer s H args us vs Q E e0 hb r hsp => ?_⟩
  have kept : ∀ b o, base.get? b = some o → s.heap.get? b = some o := fun b o e => (e0.bs b o e).1
  have KX : K.In s.heap := e0.mod.kin.keeps kept
  obtain ⟨t, ht, hq⟩ := hbody A hgd outer s H vs Q E (hr.deeper _) hsp
  have par : ∀ y ∈ ps.zip us, scope.names.lookup y.1 = some .local ∨ (scope.names.lookup y.1 = some .cell ∧ ((cellsFrom (s.heap.objs.size + 1) scope.names []).lookup y.1).isSome = true) := by
    rintro ⟨n, v⟩ hy
    exact (S.par n (List.of_mem_zip hy).1).imp id fun z => ⟨z, PySem.W.cellsFrom_some _ _ _ (.inl z)⟩
  refine codeAny_call_function hr.depth (KX _ _ lk) rfl S.co S.gen rfl (PySem.W.codeRec_of KX hcd) (hb _ _ _ _ (wpAny_newFunctionEnv_cells S.kind par fun env he s1 x => ?_))
  subst he
  refine ⟨(e0.mod.nolimit.keeps kept).keeps x.toInCall.keep, codeAny_func (wpAny_mono (ht.run [] s1 (start N vs) H _ (inv_start S hr.hd e0 (len _ _ _ _ hsp) r x) hq) (fun fl s' hs => ?_) fun e s' hs => hs)⟩
  rcases fl with _ | _ | _ | u
  · obtain ⟨σ', H', J, q⟩ := hs
    exact ⟨V.non, H', J.os, J.bare, J.base, J.hok, rfl, q⟩
  · exact (let ⟨_, _, _, q⟩ := hs; False.elim q)
  · exact (let ⟨_, _, _, q⟩ := hs; False.elim q)
  · obtain ⟨v, σ', H', J, rv, q⟩ := hs
    exact ⟨v, H', J.os, J.bare, J.base, J.hok, rv, q⟩
theorem Fun.okG {x qual : Str} {st : Stmt} {N : List Str} (F : L2.Fun K x qual st f fd) (S : FnScope N ps (defScope st)) (len : ∀ vs H Q E, sp vs H Q E → vs.length = ps.length)
    (hbody : ∀ (cdv : Value) (A : Around), A.guards = some [] → ∀ (outer : List Env) (s : Shared) (H : Hp) (vs : List V) (Q : VK) (E : XK), Room k (A.deeper (envOfC qual (defScope st) s.heap.objs.size f cdv)) → sp vs H Q E →
      ∃ t, PSs (cxOf CX0 P w K mg base N qual (defScope st) f cdv A outer s H E).nox (defBody st) t ∧ t { nx := fun _ H' => Q .non H', rt := Q } (start N vs) H) : FnG P w K mg base CX0 (k + 1) f fd ps sp := by
  obtain ⟨oc, od, kV, doc, pm, an, cdv, ct, osl, rfl, lk, hcd⟩ := F.ex
  exact fnG_of lk hcd S len fun A hgd outer s H vs Q E hr hsp => let ⟨t, h, q⟩ := hbody cdv A hgd outer s H vs Q E hr hsp; ⟨t, h.nox, q⟩
end
section
variable {X : Cx} {CX : CXT} {k : Nat} {f : Addr} {fd : FuncData} {ps : List Str} {sp : Sp} {ds : List Value} {dvs : List V} {E : XK} {x : Str} {p pos : Pos} {e : Expr} {es : List Expr} {t : TA}
theorem pe_callG (F : FnG X.prog X.w X.K X.mg X.base CX k f fd ps sp) (hgd : X.A.guards = some []) (hr : Room k X.A) (hg : Gl X x) (hm : X.mg x = some (.ref f)) (hk : PySem.W.keepIn X.K (.ref f) = true) (hb : Binds X.K fd ps ds) (hd : Vals dvs ds) (hx : Passes CX X E)
    (ha : PA X (e :: es) t) (hdb : (x == ("__debug__" : Str)) = false := by decide) (he : starEach (e :: es) X.env = (false, eval e X.env) :: starEach es X.env := by rfl) (hpl : (backTo pos (starEach es X.env)).any (·.1) = false := by rfl) :
    PE X (.Call (.Name x p) (e :: es) [] pos) (tCall sp dvs E t) := by
  refine ⟨fun pins s σ H Q I h => wpAny_Call_Name_kw (ld_glob I hg hm (PySem.W.callWith_K (h₀ := X.base) I.ok.mod.kin hk (thn (ha.run pos pins s σ H _ I h) fun us s1 ⟨vs, H1, I1, r, q⟩ => ⟨I1.kIn, ?_⟩) he hpl) hdb)⟩
  have r2 : Vals (vs ++ dvs) (us ++ ds) := r.append hd
  have hl : (us ++ ds).length = ps.length := r2.length.symm.trans (F.len _ _ _ _ q)
  refine wpAny_call (codeAny_mono (F.run X.A hgd hr X.stack s1 H1 ⟨us, []⟩ (us ++ ds) (vs ++ dvs) Q E I1.env0 (hb s1 us I1.kIn hl) r2 q) fun res s' hq => ?_)
  rcases res with e | fl
  · exact hx pins σ H1 s1 e s' I1 hq
  · rcases fl with _ | _ | _ | u
    · exact False.elim hq
    · exact False.elim hq
    · exact False.elim hq
    · exact I1.after hq
end

/-! ### repr of plain data -/
def rReprD (K : PySem.W.Frag) : List V → Hp → VK → Prop := fun xs H Q => ∃ (x : V) (d : PyData), xs = [x] ∧ Dp K H x d ∧ d.canLay0 = true ∧ d.showable = true ∧ d.depth ≤ 60 ∧ d.shown.length ≤ sizeLine ∧ Q (.str d.shown) H
theorem call_reprD {X : Cx} (hgd : X.A.guards = some []) (hu : X.A.units + 64 < cLine) : CallR X (.builtin "repr") (rReprD X.K) := by
  intro pins s σ H xs us Q I r h
  obtain ⟨x, d, rfl, hd, hc, hs, hdep, hz, q⟩ := h
  obtain ⟨u, rfl, rx⟩ := vals1 r
  obtain ⟨as, rd⟩ := Dp.reads I d x u hd rx
  have nd := PyData.hasDict_of_canLay d hc
  have fin : ∀ (h' : Heap) (v tk : Tok), (∀ b o, s.heap.get? b = some o → h'.get? b = some o) → EP X pins σ Q (.str d.shown v) { s with heap := h', toks := tk } := fun h' v tk hk => ⟨.str d.shown, H, I.kept hk, ⟨_, rfl⟩, q⟩
  cases rd with
  | none => exact PySem.P.repr_of_none (fin _ _ _ fun _ _ e => e)
  | bool b =>
    refine PySem.P.repr_of_bool ?_
    cases b <;> exact fin s.heap s.toks (s.toks + 1) fun _ _ e => e
  | int i t => exact PySem.P.repr_of_int (by simpa [PyData.showable] using hs) (fin s.heap s.toks (s.toks + 1) fun _ _ e => e)
  | str y t => exact PySem.P.repr_of_str (fin s.heap s.toks (s.toks + 1) fun _ _ e => e) hz
  | list h1 h2 h3 h4 => exact repr_of_reads' (.list h1 h2 h3 h4) hs (PyData.noDict_hsm nd) hgd (by omega) (fun _ _ e => e) fin hz
  | tuple h1 h2 h3 h4 => exact repr_of_reads' (.tuple h1 h2 h3 h4) hs (PyData.noDict_hsm nd) hgd (by omega) (fun _ _ e => e) fin hz
  | dict h1 h2 h3 h4 h5 => simp [PyData.canLay0] at hc

/-! ### the end: a law whose promise asks that no repr is under way -/
theorem law_callG {P : Program} {w : World} {K : PySem.W.Frag} {mg mb : Str → Option Value} {k : Nat} {fa a : Addr} {fd : FuncData} {x : Str} {sp : Sp} {s₁ : Shared} {vs : List Value} {ns : List Int}
    (KX : K.In s₁.heap) (hns : s₁.heap.Ns mainGlobals mg) (hb : s₁.heap.Ns builtinsNs mb) (hbb : ∀ x : Str, x ≠ "__name__" → mb x = bootBuiltins x) (hlim : s₁.heap.NoLimit) (hg : s₁.gens = #[])
    (ha : s₁.heap.get? a = some { cls := .type "list", data := .seq vs.toArray }) (hi : IntsAre vs ns) (hl : ns.length ≤ sizeLine) (hr : Room k callerA)
    (F : ∀ base : Heap, K.In base → base.Ns mainGlobals mg → FnG P w K mg base CX0 k fa fd [x] sp) (hbind : ∀ (s : Shared) (u : Value), BindsTo s fd ⟨[u], []⟩ [(x, u)])
    (hsp : ∀ H : Hp, SqL K H a (ns.map V.int) → sp [.ref a] H (fun v _ => v = .bl true) fun _ _ _ => False) :
    codeAny (model P w) callerA (.call (.ref fa) ⟨[.ref a], []⟩) (fun r s' => r = .ok (.ret (.bool true)) ∧ OldK s₁.heap s'.heap ∧ s'.os = s₁.os ∧ AllBare s'.gens) s₁ := by
  let oS : Obj := { cls := .type "list", data := .seq vs.toArray }
  -- the script is tracked as it stands, unless it is one of the module's own objects
  let H : Hp := fun b => if b = a ∧ K.lookup a = none then some (.frz oS (.lst (ns.map V.int))) else none
  have rv := vals_ints hi
  have Hsome : ∀ {b : Addr} {o : HO}, H b = some o → b = a ∧ K.lookup a = none ∧ o = .frz oS (.lst (ns.map V.int)) := fun {b o} e => by
    by_cases c : b = a ∧ K.lookup a = none
    · have e' := (if_pos c).symm.trans e
      exact ⟨c.1, c.2, (Option.some.inj e').symm⟩
    · have e' := (if_neg c).symm.trans e
      cases e'
  have free : ∀ {b : Addr}, (∀ z : b = a, K.lookup a ≠ none) → H b = none := fun {b} n => if_neg fun c => n c.1 c.2
  have hS : SqL K H a (ns.map V.int) := by
    cases hk : K.lookup a with
    | none => exact .inl (.inr ⟨oS, if_pos ⟨rfl, hk⟩⟩)
    | some o =>
      have e := (KX a o hk).symm.trans ha
      cases e
      exact .inr ⟨_, vs.toArray, _, hk, rfl, rfl, rfl, by rw [List.size_toArray, hi.length]; exact hl, by simpa using rv⟩
  have hok : HOk P w H s₁.heap := fun b o e => by
    obtain ⟨rfl, _, rfl⟩ := Hsome e
    exact ⟨ha, by rw [List.length_map]; exact hl, vs, _, rv, ha⟩
  have noDict : ∀ {b : Addr} {o : Obj} {es : Array DictEntry} {ep : Nat}, s₁.heap.get? b = some o → o.data = .dict es ep → H b = none := fun {b o es ep} e d => free fun z => by
    subst z
    rw [ha] at e
    cases e
    cases d
  have ns_hid : ∀ {b : Addr} {m : Str → Option Value}, s₁.heap.Ns b m → (hidT s₁.heap H).Ns b m := fun {b m} ⟨o, es, ep, e, d, r⟩ => ⟨o, es, ep, hidT_get e (noDict e d), d, r⟩
  have hKb : K.In (hidT s₁.heap H) := fun b o e => hidT_get (KX b o e) (free fun z => by subst z; rw [e]; exact fun y => nomatch y)
  have hM : Mod K mg (hidT s₁.heap H) := ⟨hKb, ns_hid hns, ⟨mb, ns_hid hb, hbb⟩, let ⟨mc, h1, h2⟩ := hlim; ⟨mc, ns_hid h1, h2⟩⟩
  have e0 : Env0 P w K mg (hidT s₁.heap H) callerA [] s₁ H := ⟨rfl, hM, fun b o e => of_hidT e, Nat.le_of_eq (hidT_size _ _), trivial, (fun b hb => absurd (show b ∈ ([] : List Addr) from hb) (by simp)), hok, .of_eq hg⟩
  refine codeAny_mono ((F _ hKb (ns_hid hns)).run callerA rfl hr [] s₁ H ⟨[.ref a], []⟩ [.ref a] [.ref a] _ _ e0 (hbind s₁ (.ref a)) (.cons rfl .nil) (hsp H hS)) fun r s' h => ?_
  rcases r with e | fl
  · exact False.elim h
  rcases fl with _ | _ | _ | u
  · exact False.elim h
  · exact False.elim h
  · exact False.elim h
  obtain ⟨v, H', os, bare, un, hok', r', q⟩ := h
  have q' : v = .bl true := q
  subst q'
  obtain rfl : u = Value.bool true := r'
  refine ⟨rfl, OldK.of_keep fun b o e => ?_, os, bare⟩
  cases hb' : H b with
  | none => exact un.keep b o e hb' (fun z => absurd (show b ∈ ([] : List Addr) from z) (by simp)) (by simp)
  | some u =>
    obtain ⟨rfl, hk, rfl⟩ := Hsome hb'
    have e2 := (hok' _ _ (un.frzs _ oS _ hb')).1
    rw [ha] at e
    cases e
    exact e2
theorem walk_ofG {l : PySem.W.OpenLaw} {n k : Nat} {q : Program} {loose : List Str} {XP : (Str → Option Value) → Heap → Prop} {YP : World → Heap → Prop} {d : DefRec} {K : Params → PySem.W.Frag} {sp : PySem.W.Frag → Sp} {x : Str}
    (hn : l.most = some n) (hn2 : n ≤ sizeLine) (hdf : d.params.defaults = []) (hr : Room k callerA)
    (hY : ∀ (w : World) (h : Heap), YP w h → (K w.params).In h)
    (F : ∀ (w : World) (mg : Str → Option Value) (fa : Addr) (h : Heap), (K w.params).In h → h.Ns mainGlobals mg → mg d.name = some (.ref fa) →
      ∃ fd : FuncData, (∀ (s : Shared) (u : Value), BindsTo s fd ⟨[u], []⟩ [(x, u)]) ∧
        ∀ base : Heap, (K w.params).In base → base.Ns mainGlobals mg → FnG l.prog w (K w.params) mg base CX0 k fa fd [x] (sp (K w.params)))
    (hsp : ∀ (K : PySem.W.Frag) (H : Hp) (a : Addr) (ns : List Int), ns.length ≤ n → SqL K H a (ns.map V.int) → sp K [.ref a] H (fun v _ => v = .bl true) fun _ _ _ => False) :
    PySem.W.WalkO q loose XP YP l.row.toRowW d [] (fun f vs => PySem.call f vs) :=
  Att.attach_call hn hdf fun w s₀ s₁ mg mb fa o pm cd doc a vs ns G Y ho hd hcd hmg hobj hints hlen hg =>
    have KX := hY w _ Y
    let ⟨fd, hb, hF⟩ := F w mg fa _ KX G.T.g hmg
    law_callG KX G.T.g G.T.b G.T.builtins G.T.nolimit hg hobj hints (Nat.le_trans hlen hn2) hr hF hb fun H hS => hsp _ H a ns hlen hS
end MB

set_option maxHeartbeats 4000000
namespace MB
open PySem PySem.Spec PyProof.Rows L2
/-- data whose repr is asked: levels, size -/
structure Rp (k n : Nat) (d : PyData) : Prop where
  sh : Sh k d
  shw : d.showable = true
  short : d.leavesShort 13 = true
  bulk : d.bulk ≤ n
theorem Rp.mono {k n m : Nat} {d : PyData} (h : Rp k n d) (e : n ≤ m) : Rp k m d := ⟨h.sh, h.shw, h.short, Nat.le_trans h.bulk e⟩
theorem Rp.int {i : Int} {k : Nat} (h : i.natAbs < 1000000) : Rp k 0 (.int i) := by
  refine ⟨.int i, ?_, ?_, by simp [PyData.bulk]⟩
  · simp only [PyData.showable]
    refine decide_eq_true ?_
    by_cases h0 : i.natAbs = 0
    · rw [h0]; decide
    · exact Nat.lt_trans ((Nat.log2_lt h0).mpr (show i.natAbs < 2 ^ 20 by omega)) (by decide)
  · simp only [PyData.leavesShort]
    refine decide_eq_true ?_
    have e := int_text_length_le10 (a := i) (k := 6) (by decide) h
    have e2 : (PyData.shown (.int i)).length = (toString i).length := by
      simp only [PyData.shown]
      exact PySem.ofString_length _
    omega
theorem rp_all {k n : Nat} : ∀ {ds : List PyData}, (∀ d, d ∈ ds → Rp k n d) → PyData.showableAll ds = true ∧ PyData.leavesShortAll 13 ds = true ∧ PyData.bulkAll ds ≤ (n + 1) * ds.length
  | [], _ => ⟨by simp [PyData.showableAll], by simp [PyData.leavesShortAll], by simp [PyData.bulkAll]⟩
  | d :: ds, h => by
    have h1 := h d (List.mem_cons_self ..)
    obtain ⟨a, b, c⟩ := rp_all fun e he => h e (List.mem_cons_of_mem _ he)
    refine ⟨by simp only [PyData.showableAll, h1.shw, a, Bool.and_self], by simp only [PyData.leavesShortAll, h1.short, b, Bool.and_self], ?_⟩
    simp only [PyData.bulkAll, List.length_cons]
    have := h1.bulk
    rw [Nat.mul_add]
    omega
theorem Rp.tup {k n m : Nat} {ds : List PyData} (h : ∀ d, d ∈ ds → Rp k n d) (hm : (n + 1) * ds.length ≤ m) : Rp (k + 1) m (.tuple ds) := by
  obtain ⟨a, b, c⟩ := rp_all h
  exact ⟨Sh.tup fun d hd => (h d hd).sh, by simp only [PyData.showable]; exact a, by simp only [PyData.leavesShort]; exact b, by simp only [PyData.bulk]; omega⟩
theorem Rp.lst {k n m : Nat} {ds : List PyData} (h : ∀ d, d ∈ ds → Rp k n d) (hm : (n + 1) * ds.length ≤ m) : Rp (k + 1) m (.list ds) := by
  obtain ⟨a, b, c⟩ := rp_all h
  exact ⟨Sh.lst fun d hd => (h d hd).sh, by simp only [PyData.showable]; exact a, by simp only [PyData.leavesShort]; exact b, by simp only [PyData.bulk]; omega⟩
theorem Rp.ints {ns : List Int} {k m : Nat} (h : ∀ i, i ∈ ns → i.natAbs < 1000000) (hm : ns.length ≤ m) : Rp (k + 1) m (.tuple (ns.map PyData.int)) :=
  Rp.tup (n := 0) (fun d hd => by obtain ⟨i, hi, rfl⟩ := List.mem_map.mp hd; exact .int (h i hi)) (by rw [List.length_map]; omega)
theorem Rp.bool {b : Bool} {k : Nat} : Rp k 0 (.bool b) := ⟨⟨by simp [PyData.canLay0], by simp [PyData.depth]⟩, by simp [PyData.showable], by simp [PyData.leavesShort], by simp [PyData.bulk]⟩
/-- repr(x), by data -/
theorem repr_read {K : PySem.W.Frag} {H : Hp} {x : V} {d : PyData} {Q : VK} {k n : Nat} (hd : Dp K H x d) (hs : Rp k n d) (hk : k ≤ 60) (hn : n ≤ 1048576) (q : Q (.str d.shown) H) : rReprD K [x] H Q :=
  ⟨x, d, rfl, hd, hs.sh.1, hs.shw, Nat.le_trans hs.sh.2 hk, PyData.shown_fits_bulk (B := 13) (by decide) (by decide) hs.short (Nat.le_trans hs.bulk (by omega)), q⟩
theorem Rp.all {k n : Nat} {d : PyData} (hs : Rp k n d) (hk : k ≤ 60) (hn : n ≤ 1048576) : d.canLay0 = true ∧ d.showable = true ∧ d.depth ≤ 60 ∧ d.shown.length ≤ sizeLine :=
  ⟨hs.sh.1, hs.shw, Nat.le_trans hs.sh.2 hk, PyData.shown_fits_bulk (B := 13) (by decide) (by decide) hs.short (Nat.le_trans hs.bulk (by omega))⟩
end MB

set_option maxHeartbeats 4000000
namespace MB
open PySem PySem.Spec PyProof.Rows L2
/-- data whose repr is asked: levels, size -/
structure RpW (k n : Nat) (d : PyData) : Prop where
  sh : Sh k d
  shw : d.showable = true
  short : d.leavesShort  75 = true
  bulk : d.bulk ≤ n
theorem RpW.mono {k n m : Nat} {d : PyData} (h : RpW k n d) (e : n ≤ m) : RpW k m d := ⟨h.sh, h.shw, h.short, Nat.le_trans h.bulk e⟩
theorem RpW.int {i : Int} {k : Nat} (h : i.natAbs < 10 ^ 70) : RpW k 0 (.int i) := by
  refine ⟨.int i, ?_, ?_, by simp [PyData.bulk]⟩
  · simp only [PyData.showable]
    refine decide_eq_true ?_
    by_cases h0 : i.natAbs = 0
    · rw [h0]; decide
    · exact Nat.lt_trans ((Nat.log2_lt h0).mpr (show i.natAbs < 2 ^ 240 by exact Nat.lt_trans h (by decide +kernel))) (by decide)
  · simp only [PyData.leavesShort]
    refine decide_eq_true ?_
    have e := int_text_length_le10 (a := i) (k := 70) (by decide) h
    have e2 : (PyData.shown (.int i)).length = (toString i).length := by
      simp only [PyData.shown]
      exact PySem.ofString_length _
    omega
theorem rpW_all {k n : Nat} : ∀ {ds : List PyData}, (∀ d, d ∈ ds → RpW k n d) → PyData.showableAll ds = true ∧ PyData.leavesShortAll  75 ds = true ∧ PyData.bulkAll ds ≤ (n + 1) * ds.length
  | [], _ => ⟨by simp [PyData.showableAll], by simp [PyData.leavesShortAll], by simp [PyData.bulkAll]⟩
  | d :: ds, h => by
    have h1 := h d (List.mem_cons_self ..)
    obtain ⟨a, b, c⟩ := rpW_all fun e he => h e (List.mem_cons_of_mem _ he)
    refine ⟨by simp only [PyData.showableAll, h1.shw, a, Bool.and_self], by simp only [PyData.leavesShortAll, h1.short, b, Bool.and_self], ?_⟩
    simp only [PyData.bulkAll, List.length_cons]
    have := h1.bulk
    rw [Nat.mul_add]
    omega
theorem RpW.tup {k n m : Nat} {ds : List PyData} (h : ∀ d, d ∈ ds → RpW k n d) (hm : (n + 1) * ds.length ≤ m) : RpW (k + 1) m (.tuple ds) := by
  obtain ⟨a, b, c⟩ := rpW_all h
  exact ⟨Sh.tup fun d hd => (h d hd).sh, by simp only [PyData.showable]; exact a, by simp only [PyData.leavesShort]; exact b, by simp only [PyData.bulk]; omega⟩
theorem RpW.lst {k n m : Nat} {ds : List PyData} (h : ∀ d, d ∈ ds → RpW k n d) (hm : (n + 1) * ds.length ≤ m) : RpW (k + 1) m (.list ds) := by
  obtain ⟨a, b, c⟩ := rpW_all h
  exact ⟨Sh.lst fun d hd => (h d hd).sh, by simp only [PyData.showable]; exact a, by simp only [PyData.leavesShort]; exact b, by simp only [PyData.bulk]; omega⟩
theorem RpW.ints {ns : List Int} {k m : Nat} (h : ∀ i, i ∈ ns → i.natAbs < 10 ^ 70) (hm : ns.length ≤ m) : RpW (k + 1) m (.tuple (ns.map PyData.int)) :=
  RpW.tup (n := 0) (fun d hd => by obtain ⟨i, hi, rfl⟩ := List.mem_map.mp hd; exact .int (h i hi)) (by rw [List.length_map]; omega)
theorem RpW.bool {b : Bool} {k : Nat} : RpW k 0 (.bool b) := ⟨⟨by simp [PyData.canLay0], by simp [PyData.depth]⟩, by simp [PyData.showable], by simp [PyData.leavesShort], by simp [PyData.bulk]⟩
theorem fits75 {d : PyData} (hl : d.leavesShort 75 = true) (hw : d.bulk ≤ 100000) : d.shown.length ≤ sizeLine := by
  have h := PyData.shown_le_bulk 75 (by decide) d hl
  have h2 : (75 + 2) * d.bulk ≤ 77 * 100000 := Nat.mul_le_mul (by omega) (by omega)
  have e : sizeLine = 16777216 := by decide
  omega
/-- repr(x), by data -/
theorem reprW_read {K : PySem.W.Frag} {H : Hp} {x : V} {d : PyData} {Q : VK} {k n : Nat} (hd : Dp K H x d) (hs : RpW k n d) (hk : k ≤ 60) (hn : n ≤ 100000) (q : Q (.str d.shown) H) : rReprD K [x] H Q :=
  ⟨x, d, rfl, hd, hs.sh.1, hs.shw, Nat.le_trans hs.sh.2 hk, fits75 hs.short (Nat.le_trans hs.bulk hn), q⟩
theorem RpW.all {k n : Nat} {d : PyData} (hs : RpW k n d) (hk : k ≤ 60) (hn : n ≤ 100000) : d.canLay0 = true ∧ d.showable = true ∧ d.depth ≤ 60 ∧ d.shown.length ≤ sizeLine :=
  ⟨hs.sh.1, hs.shw, Nat.le_trans hs.sh.2 hk, fits75 hs.short (Nat.le_trans hs.bulk hn)⟩
end MB

set_option maxHeartbeats 4000000
namespace MB
open PySem PySem.Spec PyProof.Rows L2

/-! ### f(p = v), no value by position -/
def gK {α : Type} (us ws : List α) : List α := match us with
  | [] => ws
  | _ :: _ => []
section
variable {X : Cx} {CX : CXT} {k : Nat} {f : Addr} {fd : FuncData} {ps ks : List Str} {sp : Sp} {E : XK} {x : Str} {p pos : Pos} {kws : List Keyword} {tk : TA} {g : List Value → List Value → List Value} {gV : List V → List V → List V}
theorem pe_callK0 (F : FnOk X.prog X.w X.K X.mg X.base CX k f fd ps sp) (hr : Room k X.A) (hg : Gl X x) (hm : X.mg x = some (.ref f)) (hk : PySem.W.keepIn X.K (.ref f) = true) (hb : KBinds X.K fd ps ks g gV) (hx : Passes CX X E)
    (hkw : PK X kws tk) (hall : (backToKw pos (keywordEach kws X.env)).all (·.1.isSome) = true := by rfl) (hks : (backToKw pos (keywordEach kws X.env)).filterMap (·.1) = ks := by rfl)
    (hdb : (x == ("__debug__" : Str)) = false := by decide)
    (hpl : ((backTo pos (starEach [] X.env)).any (·.1) || (backToKw pos (keywordEach kws X.env)).any (·.1.isNone)) = false := by rfl) :
    PE X (.Call (.Name x p) [] kws pos) (tCallK sp gV E tNil tk) := by
  refine ⟨fun pins s σ H Q I h => ?_⟩
  refine wpAny_Call_Name_kw (ld_glob I hg hm ?_ hdb)
  refine PySem.W.callWith_KW0 (h₀ := X.base) I.ok.mod.kin hk hall ?_ hpl
  refine thn (hkw.run pos pins s σ H _ I h) fun ws s2 ⟨zs, H2, I2, rz, q2⟩ => ⟨I2.kIn, ?_⟩
  rw [hks]
  exact run_fnk (us := []) (vs := []) F hr hb hx I2 .nil rz q2
end
theorem kb1 {K : PySem.W.Frag} {x qual : Str} {st : Stmt} {f : Addr} {fd : FuncData} {q : Str} (F : L2.Fun K x qual st f fd)
    (h : ∀ (kV doc pm : Value) (an : Option Addr) (cdv ct u : Value), bindArgs (PySem.W.fnOf x qual (defArgs st) (defBody st) (defScope st) .none kV doc pm an cdv ct) ⟨[], [(q, u)]⟩ = pure [(q, u)]) : KBinds K fd [q] [q] gK gK := by
  obtain ⟨oc, od, kV, doc, pm, an, cdv, ct, osl, rfl, lk, hcd⟩ := F.ex
  refine ⟨fun s us ws _ hl => ?_, fun {vs us zs ws} r1 r2 => ?_⟩
  · cases us with
    | cons u us => exact nomatch hl
    | nil =>
      match ws, hl with
      | [u], _ => exact .of_eq (h kV doc pm an cdv ct u)
  · cases r1 with
    | nil => exact r2
    | cons _ _ => exact .nil

/-! ### a comprehension with a test -/
theorem lc_sel {K : PySem.W.Frag} {J : It} {n : Nat} {G : Hp → Prop} {Y : Nat → Hp → V → Hp → Prop} (w : Walk J n G Y) {g : TG} {tt : TT} {te : TE} {vs : List Nat} {σ : L2.St} {H1 : Hp} {D : Addr} {Qd : Hp → Prop}
    (f : Nat → Bool) (d : Nat → PyData) (ht : ∀ i, i < n → Tf (d i)) (hn : n ≤ 1000) (hD : H1 D = none) (hG : ∀ H, Same H1 H → G H)
    (hs : ∀ i x H H', i < n → Same H1 H → Y i H x H' → ∀ R : V → Hp → Prop, (∀ y H4, Same H H4 → Dp K H4 y (d i) → R y H4) →
      g x (wipe σ vs) H' fun σ2 H2 => wipe σ2 vs = wipe σ vs ∧ tt σ2 H2 fun b H3 => b = f i ∧ Same H H3 ∧ (b = true → te σ2 H3 R))
    (hd : ∀ H acc, Same H1 H → H D = some (.lst acc) → DpAll K H acc (((List.range n).filter f).map d) → Qd H)
    (mg : ∀ x σ' H' (Q Q' : L2.St → Hp → Prop), (∀ a b, Q a b → Q' a b) → g x σ' H' Q → g x σ' H' Q') (mt : ∀ σ' H' (Q Q' : Bool → Hp → Prop), (∀ a b, Q a b → Q' a b) → tt σ' H' Q → tt σ' H' Q') :
    ∃ W : Nat → Nat → Hp → Prop, (∃ m, W 0 m (upd H1 D (.lst []))) ∧ ∀ i m H, W i m H →
      (J.stop i H ∧ Qd H) ∨ (J.go i H ∧ ∃ Nx : Hp → Prop, (∀ H', Nx H' → ∃ m', m' < m ∧ W (i + 1) m' H') ∧ ∀ x H', J.yld i H x H' → g x (wipe σ vs) H' fun σ2 H2 => wipe σ2 vs = wipe σ vs ∧ tt σ2 H2 fun b H3 =>
        if b = true then te σ2 H3 fun y H4 => ∃ acc, H4 D = some (.lst acc) ∧ acc.length < sizeLine ∧ Nx (upd H4 D (.lst (acc ++ [y]))) else Nx H3) := by
  refine lc_it w (fun i H => Same H1 H ∧ ∃ acc, H D = some (.lst acc) ∧ DpAll K H acc (((List.range i).filter f).map d)) ⟨same_upd hD, [], upd_same, .nil⟩ (fun i H _ h => hG H h.1) ?_ ?_
  · rintro i x H H' hi ⟨s1, acc, ha, hA⟩ hy
    have hlen := DpAll.len hA
    have hle : acc.length ≤ i := by
      rw [hlen, List.length_map]
      have := List.length_filter_le f (List.range i)
      rw [List.length_range] at this
      exact this
    refine mg _ _ _ _ _ ?_ (hs i x H H' hi s1 hy (fun y H4 => ∃ acc, H4 D = some (.lst acc) ∧ acc.length < sizeLine ∧ (f i = true → Same H1 (upd H4 D (.lst (acc ++ [y]))) ∧ ∃ acc', (upd H4 D (.lst (acc ++ [y]))) D = some (.lst acc') ∧ DpAll K (upd H4 D (.lst (acc ++ [y]))) acc' (((List.range (i + 1)).filter f).map d))) ?_)
    · rintro σ2 H2 ⟨h1, h2⟩
      refine ⟨h1, mt _ _ _ _ ?_ h2⟩
      rintro b H3 ⟨hb, s3, h3⟩
      cases b with
      | true =>
        refine iteT ?_
        have h4 := h3 rfl
        have hb' := hb.symm
        simp only [hb', true_implies] at h4
        exact h4
      | false =>
        refine iteF ⟨s1.trans s3, acc, s3 _ _ ha, ?_⟩
        rw [List.range_succ, List.filter_append, List.map_append]
        have e : List.filter f [i] = [] := by rw [List.filter_cons, if_neg (by rw [← hb]; decide)]; rfl
        rw [e, List.map_nil, List.append_nil]
        exact DpAll.same s3 hA
    · intro y H4 s4 hy4
      refine ⟨acc, s4 _ _ ha, sz61 (by omega), fun hf => ⟨Same.mut (s1.trans s4) hD, acc ++ [y], upd_same, ?_⟩⟩
      have kp : Keep K H4 (upd H4 D (.lst (acc ++ [y]))) := But.keep But.upd (s4 _ _ ha)
      have e : List.filter f [i] = [i] := by rw [List.filter_cons, if_pos hf]; rfl
      rw [List.range_succ, List.filter_append, List.map_append, e]
      refine DpAll.keep kp (fun d' h => ?_) (DpAll.append (DpAll.same s4 hA) (.cons hy4 .nil))
      rcases List.mem_append.mp h with h | h
      · obtain ⟨j, hj, rfl⟩ := List.mem_map.mp h
        have := List.mem_range.mp (List.mem_filter.mp hj).1
        exact ht j (by omega)
      · have e : d' = d i := by simpa using h
        rw [e]; exact ht i hi
  · rintro H ⟨s1, acc, ha, hA⟩
    exact hd H acc s1 ha hA
end MB

set_option maxHeartbeats 4000000
namespace MB
open PySem PySem.Spec PyProof.Rows L2
/-! ### x *= e -/
theorem ip_mulW {X : Cx} : PIp X .Mult (fun x y H Q => ∃ i j, x = .int i ∧ y = .int j ∧ CMulW i j ∧ Q (.int (i * j)) H) := by
  intro pins s σ H x y v u Q I r1 r2 h
  obtain ⟨i, j, e1, e2, hc, q⟩ := h
  subst e1; subst e2
  obtain ⟨t, rfl⟩ := r1
  obtain ⟨t', rfl⟩ := r2
  exact imul_int ⟨.int _, H, I.tok _, ⟨_, rfl⟩, q⟩ hc.ok
/-! ### f(q = v, p = w): by keywords in any order -/
def gP {α : Type} (idx : List Nat) (us ws : List α) : List α := match us with
  | [] => idx.filterMap fun i => ws[i]?
  | _ :: _ => []
theorem gP_take {α : Type} {n : Nat} {ws : List α} : ∀ {idx : List Nat}, (∀ i, i ∈ idx → i < n) → (idx.filterMap fun i => (ws.take n)[i]?) = idx.filterMap fun i => ws[i]?
  | [], _ => rfl
  | i :: idx, h => by
    have h1 := h i (List.mem_cons_self ..)
    have h2 := gP_take (α := α) (n := n) (ws := ws) (idx := idx) fun j hj => h j (List.mem_cons_of_mem _ hj)
    rw [List.filterMap_cons, List.filterMap_cons, h2, List.getElem?_take, if_pos h1]
theorem gP_len {α : Type} {ws : List α} : ∀ {idx : List Nat}, (idx.filterMap fun i => ws[i]?).length = idx.length → ∀ i, i ∈ idx → i < ws.length
  | [], _, i, h => nomatch h
  | j :: idx, hl, i, h => by
    cases e : ws[j]? with
    | none =>
      simp only [List.filterMap_cons, e] at hl
      have := List.length_filterMap_le (fun i => ws[i]?) idx
      simp only [List.length_cons] at hl
      omega
    | some x =>
      simp only [List.filterMap_cons, e, List.length_cons, Nat.add_right_cancel_iff] at hl
      rcases List.mem_cons.mp h with h | h
      · subst h
        exact (List.getElem?_eq_some_iff.mp e).1
      · exact gP_len hl i h
theorem gP_rel {zs : List V} {ws : List Value} (r : Vals zs ws) : ∀ idx : List Nat, Vals (idx.filterMap fun i => zs[i]?) (idx.filterMap fun i => ws[i]?)
  | [] => .nil
  | i :: idx => by
    have ih := gP_rel r idx
    cases e : zs[i]? with
    | none =>
      have e2 : ws[i]? = none := List.getElem?_eq_none (by rw [← r.length]; exact List.getElem?_eq_none_iff.mp e)
      simp only [List.filterMap_cons, e, e2]; exact ih
    | some x =>
      obtain ⟨u, e2, ru⟩ := r.get e
      simp only [List.filterMap_cons, e, e2]; exact .cons ru ih
theorem zip_take {α β : Type} : ∀ (ks : List α) (ws : List β), ks.zip (ws.take ks.length) = ks.zip ws
  | [], _ => rfl
  | _ :: _, [] => rfl
  | k :: ks, w :: ws => by simp [zip_take ks ws]
theorem kbP {K : PySem.W.Frag} {x qual : Str} {st : Stmt} {f : Addr} {fd : FuncData} {ps ks : List Str} {idx : List Nat} (F : L2.Fun K x qual st f fd) (hi : idx.length = ps.length) (hk : ks.length = ps.length) (hp : 0 < ps.length)
    (hall : (∀ i, i ∈ idx → i < ps.length) ∧ ps.length - 1 ∈ idx)
    (h : ∀ (kV doc pm : Value) (an : Option Addr) (cdv ct : Value) (ws : List Value), ws.length = ps.length → bindArgs (PySem.W.fnOf x qual (defArgs st) (defBody st) (defScope st) .none kV doc pm an cdv ct) ⟨[], ks.zip ws⟩ = pure (ps.zip (gP idx [] ws))) : KBinds K fd ps ks (gP idx) (gP idx) := by
  obtain ⟨oc, od, kV, doc, pm, an, cdv, ct, osl, rfl, lk, hcd⟩ := F.ex
  refine ⟨fun s us ws _ hl => ?_, fun {vs us zs ws} r1 r2 => ?_⟩
  · cases us with
    | cons u us =>
      have : 0 = ps.length := hl
      omega
    | nil =>
      have hl' : (idx.filterMap fun i => ws[i]?).length = idx.length := by rw [hi]; exact hl
      have h2 := gP_len hl' _ hall.2
      have h3 := h kV doc pm an cdv ct (ws.take ps.length) (by rw [List.length_take]; omega)
      have e1 : gP idx [] (ws.take ps.length) = gP idx [] ws := gP_take hall.1
      have e2 : ks.zip (ws.take ps.length) = ks.zip ws := by
        rw [← hk]
        exact zip_take ks ws
      rw [e1, e2] at h3
      exact .of_eq h3
  · cases r1 with
    | nil => exact gP_rel r2 idx
    | cons _ _ => exact .nil
section
variable {X : Cx} {CX : CXT} {k : Nat} {f : Addr} {fd : FuncData} {ps ks : List Str} {sp : Sp} {E : XK} {x : Str} {p pos : Pos} {kws : List Keyword} {tk : TA} {g : List Value → List Value → List Value} {gV : List V → List V → List V}
end
end MB

set_option maxHeartbeats 4000000
namespace MB
open PySem PySem.Spec PyProof.Rows L2
/-- tuple(range(i, j, k)) -/
def tTupR3 (ta : TA) : TE := fun σ H Q => ta σ H fun vs H1 => ∃ (i j k : Int) (n : Nat), vs = [.int i, .int j, .int k] ∧ RgC i j k n ∧ n ≤ 2 ^ 24 ∧ ∀ q, H1 q = none → Q (.ref q) (upd H1 q (.tup ((List.range n).map fun (m : Nat) => V.int (i + (m : Int) * k))))
theorem pe_tupR3 {X : Cx} {a b c : Expr} {ta : TA} {p p' pos pos' : Pos} (hc : X.calm = true) (hg : Gl X "tuple") (hm : X.mg "tuple" = none) (hg' : Gl X "range") (hm' : X.mg "range" = none) (ha : PA X [a, b, c] ta)
    (hs : starEach [a, b, c] X.env = (false, eval a X.env) :: starEach [b, c] X.env := by rfl) (hpl : (backTo pos' (starEach [b, c] X.env)).any (·.1) = false := by rfl)
    (na : starEach [.Call (.Name "range" p') [a, b, c] [] pos'] X.env = (false, eval (.Call (.Name "range" p') [a, b, c] [] pos') X.env) :: starEach [] X.env := by rfl) :
    PE X (.Call (.Name "tuple" p) [.Call (.Name "range" p') [a, b, c] [] pos'] [] pos) (tTupR3 ta) := by
  refine ⟨fun pins s σ H Q I h => ?_⟩
  refine Call_ (ld_blt I hg hm boot_tuple (PyProof.Rows.callWith_type1 (args_cons (Call_ (ld_blt I hg' hm' boot_range (PyProof.Rows.callWith_type1 (thn (ha.run pos' pins s σ H _ I h) fun us s1 ⟨vs, H1, I1, r1, q1⟩ => ?_) hs hpl))) na) na))
  obtain ⟨i, j, k, n, rfl, ⟨c0, c1, c2, c3⟩, hn, q⟩ := q1
  obtain ⟨u1, u2, u3, rfl, ⟨t1, rfl⟩, ⟨t2, rfl⟩, ⟨t3, rfl⟩⟩ : ∃ u1 u2 u3, us = [u1, u2, u3] ∧ RelV (.int i) u1 ∧ RelV (.int j) u2 ∧ RelV (.int k) u3 := by
    cases r1 with
    | cons x1 y1 => cases y1 with
      | cons x2 y2 => cases y2 with
        | cons x3 y3 => cases y3; exact ⟨_, _, _, rfl, x1, x2, x3⟩
  refine call_range_3 c0 (args_nil ?_) (.inl (PyProof.noPylong_small c1))
  have I2 : Inv X pins σ H1 { s1 with heap := s1.heap.push { cls := .type "range", data := .fields #[.int i t1, .int j t2, .int k t3] } } := I1.kept (t' := s1.toks) fun b o e => Heap.get?_push_of_some _ e
  refine call_tuple_range (n := n) (I2.ok.hd hc) (IsRange.new ..) c2 c3 hn fun h' tk acc hk hi => ?_
  have I3 : Inv X pins σ H1 { s1 with heap := h', toks := tk } := I2.kept hk
  have hv : Vals ((List.range n).map fun (m : Nat) => V.int (i + (m : Int) * k)) acc.toList := by
    have e : acc.toList.length = n := by rw [Array.length_toList]; exact hi.1
    rw [← e]
    refine vals_of_get acc.toList _ fun m u hj => ?_
    obtain ⟨t, rfl⟩ := hi.2 m u (by rw [← hj, Array.getElem?_toList])
    exact ⟨t, rfl⟩
  refine ⟨.ref h'.objs.size, _, I3.laid (o := .tup ((List.range n).map fun (m : Nat) => V.int (i + (m : Int) * k))) (t' := tk) (fun c o e => Heap.get?_push_of_some _ e) (Nat.le_refl _) ⟨?_, acc.toList, hv, ?_⟩, rfl, q _ (I3.hok.fresh (Nat.le_refl _))⟩
  · rw [List.length_map, List.length_range, sizeLine_eq]; omega
  · rw [Array.toArray_toList]; exact IsTup.new _ _
end MB

set_option maxHeartbeats 4000000
namespace MB
open PySem PySem.Spec PyProof.Rows L2
theorem blT {c : Prop} [Decidable c] (h : c) : V.bl (decide c) = V.bl true := by rw [decide_eq_true h]
theorem blF {c : Prop} [Decidable c] (h : ¬ c) : V.bl (decide c) = V.bl false := by rw [decide_eq_false h]
theorem nblF {c : Prop} [Decidable c] (h : c) : V.bl (!decide c) = V.bl false := by rw [decide_eq_true h]; rfl
theorem nblT {c : Prop} [Decidable c] (h : ¬ c) : V.bl (!decide c) = V.bl true := by rw [decide_eq_false h]; rfl
theorem int_ne {i j : Int} (h : i ≠ j) : ¬ V.int i = V.int j := fun e => h (by injection e)
theorem dp_bls_inv {K : PySem.W.Frag} {H : Hp} : ∀ {ns : List Bool} {vs : List V}, DpAll K H vs (ns.map PyData.bool) → vs = ns.map V.bl
  | [], _, .nil => rfl
  | n :: ns, _, .cons a b => by
    cases a
    rw [dp_bls_inv b]
    rfl
/-- a comprehension whose items are truth values -/
theorem lc_bools {K : PySem.W.Frag} {J : It} {n : Nat} {G : Hp → Prop} {Y : Nat → Hp → V → Hp → Prop} (w : Walk J n G Y) {g : TG} {tt : TT} {te : TE} {vs : List Nat} {σ : L2.St} {H1 : Hp} {D : Addr} {Qd : Hp → Prop}
    (bs : List Bool) (hl : bs.length = n) (hn : n ≤ 1000) (hD : H1 D = none) (hG : ∀ H, Same H1 H → G H)
    (hs : ∀ i x H H', i < n → Same H1 H → Y i H x H' → ∀ b, bs[i]? = some b → ∀ R : V → Hp → Prop, (∀ H4, Same H H4 → R (.bl b) H4) →
      g x (wipe σ vs) H' fun σ2 H2 => wipe σ2 vs = wipe σ vs ∧ tt σ2 H2 fun b H3 => b = true ∧ te σ2 H3 R)
    (hd : ∀ H, Same H1 H → H D = some (.lst (bs.map V.bl)) → Qd H)
    (mg : ∀ x σ' H' (Q Q' : L2.St → Hp → Prop), (∀ a b, Q a b → Q' a b) → g x σ' H' Q → g x σ' H' Q') (mt : ∀ σ' H' (Q Q' : Bool → Hp → Prop), (∀ a b, Q a b → Q' a b) → tt σ' H' Q → tt σ' H' Q') :
    ∃ W : Nat → Nat → Hp → Prop, (∃ m, W 0 m (upd H1 D (.lst []))) ∧ ∀ i m H, W i m H →
      (J.stop i H ∧ Qd H) ∨ (J.go i H ∧ ∃ Nx : Hp → Prop, (∀ H', Nx H' → ∃ m', m' < m ∧ W (i + 1) m' H') ∧ ∀ x H', J.yld i H x H' → g x (wipe σ vs) H' fun σ2 H2 => wipe σ2 vs = wipe σ vs ∧ tt σ2 H2 fun b H3 =>
        if b = true then te σ2 H3 fun y H4 => ∃ acc, H4 D = some (.lst acc) ∧ acc.length < sizeLine ∧ Nx (upd H4 D (.lst (acc ++ [y]))) else Nx H3) := by
  refine lc_all (K := K) w (bs.map PyData.bool) (by rw [List.length_map, hl]) (fun d h => ?_) hn hD hG ?_ ?_ mg mt
  · obtain ⟨b, _, rfl⟩ := List.mem_map.mp h
    exact .bl b
  · intro i x H H' hi s y d hd' R hR
    rw [List.getElem?_map] at hd'
    cases e : bs[i]? with
    | none => rw [e] at hd'; cases hd'
    | some b =>
      rw [e] at hd'
      cases hd'
      exact hs i x H H' hi s y b e R fun H4 s4 => hR _ _ s4 (.bl b)
  · intro H acc s ha hA
    rw [dp_bls_inv hA] at ha
    exact hd H s ha
/-- a comprehension whose items are numbers -/
theorem lc_ints {K : PySem.W.Frag} {J : It} {n : Nat} {G : Hp → Prop} {Y : Nat → Hp → V → Hp → Prop} (w : Walk J n G Y) {g : TG} {tt : TT} {te : TE} {vs : List Nat} {σ : L2.St} {H1 : Hp} {D : Addr} {Qd : Hp → Prop}
    (bs : List Int) (hl : bs.length = n) (hn : n ≤ 1000) (hD : H1 D = none) (hG : ∀ H, Same H1 H → G H)
    (hs : ∀ i x H H', i < n → Same H1 H → Y i H x H' → ∀ b, bs[i]? = some b → ∀ R : V → Hp → Prop, (∀ H4, Same H H4 → R (.int b) H4) →
      g x (wipe σ vs) H' fun σ2 H2 => wipe σ2 vs = wipe σ vs ∧ tt σ2 H2 fun b H3 => b = true ∧ te σ2 H3 R)
    (hd : ∀ H, Same H1 H → H D = some (.lst (bs.map V.int)) → Qd H)
    (mg : ∀ x σ' H' (Q Q' : L2.St → Hp → Prop), (∀ a b, Q a b → Q' a b) → g x σ' H' Q → g x σ' H' Q') (mt : ∀ σ' H' (Q Q' : Bool → Hp → Prop), (∀ a b, Q a b → Q' a b) → tt σ' H' Q → tt σ' H' Q') :
    ∃ W : Nat → Nat → Hp → Prop, (∃ m, W 0 m (upd H1 D (.lst []))) ∧ ∀ i m H, W i m H →
      (J.stop i H ∧ Qd H) ∨ (J.go i H ∧ ∃ Nx : Hp → Prop, (∀ H', Nx H' → ∃ m', m' < m ∧ W (i + 1) m' H') ∧ ∀ x H', J.yld i H x H' → g x (wipe σ vs) H' fun σ2 H2 => wipe σ2 vs = wipe σ vs ∧ tt σ2 H2 fun b H3 =>
        if b = true then te σ2 H3 fun y H4 => ∃ acc, H4 D = some (.lst acc) ∧ acc.length < sizeLine ∧ Nx (upd H4 D (.lst (acc ++ [y]))) else Nx H3) := by
  refine lc_all (K := K) w (bs.map PyData.int) (by rw [List.length_map, hl]) (tf_ints _) hn hD hG ?_ ?_ mg mt
  · intro i x H H' hi s y d hd' R hR
    rw [List.getElem?_map] at hd'
    cases e : bs[i]? with
    | none => rw [e] at hd'; cases hd'
    | some b =>
      rw [e] at hd'
      cases hd'
      exact hs i x H H' hi s y b e R fun H4 s4 => hR _ _ s4 (.int b)
  · intro H acc s ha hA
    rw [dp_ints_inv hA] at ha
    exact hd H s ha
theorem k_pgTN {X : Cx} {K : PySem.W.Frag} {x y z : Str} {px py pz p1 : Pos} {k k1 : Nat} {pos : Pos} {t1 t2 : TG} (hK : X.K = K) (hc : X.calm = true) (h1 : PG X (.Tuple [.Name x px, .Name y py] k1 p1) t1) (h2 : PG X (.Name z pz) t2) : PG X (.Tuple [.Tuple [.Name x px, .Name y py] k1 p1, .Name z pz] k pos) (gTup K 2 (gCons t1 (gCons t2 gNil))) := by
  subst hK
  exact pg_tup hc (pgs_cons h1 (pgs_cons h2 pgs_nil))
theorem mono_pair2 {K : PySem.W.Frag} {n n' i j l : Nat} (x : V) (σ' : L2.St) (H' : Hp) (Q Q' : L2.St → Hp → Prop) (h : ∀ a b, Q a b → Q' a b) (e : gTup K n (gCons (gTup K n' (gCons (gName i) (gCons (gName j) gNil))) (gCons (gName l) gNil)) x σ' H' Q) : gTup K n (gCons (gTup K n' (gCons (gName i) (gCons (gName j) gNil))) (gCons (gName l) gNil)) x σ' H' Q' := by
  obtain ⟨a, xs, e1, e2, e3, v, r, e4, b, ys, f1, f2, f3, v1, r1, f4, v2, r2, f5, f6, v', r', e5, e6, q⟩ := e
  exact ⟨a, xs, e1, e2, e3, v, r, e4, b, ys, f1, f2, f3, v1, r1, f4, v2, r2, f5, f6, v', r', e5, e6, h _ _ q⟩
theorem ci_sum : ∀ p : List Nat, (ci p).sum = ((p.sum : Nat) : Int)
  | [] => rfl
  | x :: p => by
    have := ci_sum p
    simp only [ci, List.map_cons, List.sum_cons, Int.natCast_add] at this ⊢
    rw [this]
theorem cutV_to {p : List Nat} {m : Nat} (h : m ≤ p.length) : cutV (vi p) none (some (m : Int)) = vi (p.take m) := by
  rw [cut_to (by rw [vi_len]; exact h)]; simp [vi, List.map_take]
theorem cutV_from {p : List Nat} {m : Nat} (h : m ≤ p.length) : cutV (vi p) (some (m : Int)) none = vi (p.drop m) := by
  rw [cut_from (by rw [vi_len]; exact h)]; simp [vi, List.map_drop]
theorem cut_drop {p : List Nat} {m : Nat} (h : m ≤ p.length) : cutV (vi p) (some (m : Int)) none = (ci (p.drop m)).map V.int := by
  rw [cutV_from h, vi_ci]
theorem isi_int {K : PySem.W.Frag} {H : Hp} {i : Int} {Q : VK} (q : Q (.bl true) H) : rIsi K [.int i, .ty "int"] H Q :=
  ⟨.int i, .ty "int", .type "int", .type "int", true, rfl, .ty _, .base (.int i), kit_ty (by decide +kernel), q⟩
theorem isi_bool {K : PySem.W.Frag} {H : Hp} {i : Int} {Q : VK} (q : Q (.bl false) H) : rIsi K [.int i, .ty "bool"] H Q :=
  ⟨.int i, .ty "bool", .type "int", .type "bool", false, rfl, .ty _, .base (.int i), kit_ty (by decide +kernel), q⟩
theorem nth3 {n : Nat} (x : List V) (h : x.length = n) (i : Nat) (hi : i < (if (if (x.length : Int) < 3 then (x.length : Int) else 3) > 1 then (if (x.length : Int) < 3 then (x.length : Int) else 3) else 1 : Int).toNat) : i ≤ 62 := by
  have : (if (if (x.length : Int) < 3 then (x.length : Int) else 3) > 1 then (if (x.length : Int) < 3 then (x.length : Int) else 3) else 1) ≤ 3 := by split <;> split <;> omega
  omega
end MB

set_option maxHeartbeats 4000000
namespace MB
open PySem PySem.Spec PyProof.Rows L2
theorem alike_ints (ns : List Int) : PySem.W.AlikeAll (ns.map PyData.int) := by
  refine ⟨fun x hx y hy => ?_, fun x hx e => ?_⟩
  · obtain ⟨i, _, rfl⟩ := List.mem_map.mp hx
    obtain ⟨j, _, rfl⟩ := List.mem_map.mp hy
    simp [PySem.W.alike]
  · obtain ⟨i, _, rfl⟩ := List.mem_map.mp hx
    cases e
theorem depth_ints : ∀ ns : List Int, PyData.depthAll (ns.map PyData.int) = 0
  | [] => by simp [PyData.depthAll]
  | n :: ns => by simp [PyData.depthAll, PyData.depth, depth_ints ns]
/-! ### max of a tuple of ints; with default= -/
def rMaxT (K : PySem.W.Frag) : List V → Hp → VK → Prop := fun xs H Q => ∃ (a : Addr) (n : Int) (ns : List Int), xs = [V.ref a] ∧ SqT K H a ((n :: ns).map V.int) ∧ Q (.int (ns.foldl max n)) H
theorem cr_maxT {X : Cx} {K : PySem.W.Frag} (hK : X.K = K) (hc : X.calm = true) (hu : X.A.units + 64 < cLine) : CallR X (.builtin "max") (rMaxT K) := by
  subst hK
  intro pins s σ H vs us Q I r h
  obtain ⟨a, n, ns, rfl, hs, q⟩ := h
  obtain ⟨its, rv, hl, _⟩ := I.tuple hs
  rw [Vals.ref1 r]
  obtain ⟨as, rd⟩ := Dp.readsAll I ((n :: ns).map PyData.int) _ its (dp_ints (n :: ns)) rv
  refine PySem.W.max_tuple_data (x := .int n) (xs := ns.map PyData.int) (I.ok.hd hc) hl (by simpa using rd) (alike_ints (n :: ns)) ?_ fun i v h' tk bs _ hr hk => ?_
  · have := depth_ints (n :: ns)
    rw [List.map_cons] at this
    rw [this]; omega
  · rw [PySem.W.maxD_ints] at hr
    cases hr
    exact ⟨.int _, H, I.kept hk, ⟨_, rfl⟩, q⟩
def rMaxDef (K : PySem.W.Frag) : List V → List V → Hp → VK → Prop := fun xs zs H Q => ∃ (a : Addr) (z : Int) (ns : List Int), xs = [V.ref a] ∧ zs = [V.int z] ∧ SqT K H a (ns.map V.int) ∧ (ns = [] → Q (.int z) H) ∧ ∀ m r, ns = m :: r → Q (.int (r.foldl max m)) H
theorem cr_maxDef {X : Cx} {K : PySem.W.Frag} (hK : X.K = K) (hc : X.calm = true) (hu : X.A.units + 64 < cLine) : CallRK X (.builtin "max") [Str.ofString "default"] (rMaxDef K) := by
  subst hK
  intro pins s σ H vs zs us ws Q I r rz h
  obtain ⟨a, z, ns, rfl, rfl, hs, q0, q1⟩ := h
  obtain ⟨its, rv, hl, _⟩ := I.tuple hs
  rw [Vals.ref1 r]
  obtain ⟨u, rfl, tz, rfl⟩ := vals1 rz
  obtain ⟨as, rd⟩ := Dp.readsAll I (ns.map PyData.int) _ its (dp_ints ns) rv
  refine PySem.W.max_tuple_default (xs := ns.map PyData.int) (I.ok.hd hc) hl (by simpa using rd) (alike_ints ns) ?_ (fun e h' tk hk => ?_) fun y ys i v h' tk bs e _ hr hk => ?_
  · rw [depth_ints ns]; omega
  · exact ⟨.int z, H, I.kept hk, ⟨_, rfl⟩, q0 (List.map_eq_nil_iff.mp e)⟩
  · cases ns with
    | nil => cases e
    | cons m t =>
      rw [List.map_cons] at e
      cases e
      rw [PySem.W.maxD_ints] at hr
      cases hr
      exact ⟨.int _, H, I.kept hk, ⟨_, rfl⟩, q1 m t rfl⟩
/-! ### sorted of a tuple of ints -/
section
variable {prog : Program} {w : World} {A : Around} {E : Value → Shared → Prop} {s : Shared}
theorem gather_tuple {p : Addr} {xs : List Value} {R : List Value → Shared → Prop} (ht : s.heap.IsTuple p xs.toArray) (hz : xs.length ≤ sizeLine)
    (q : R xs { s with heap := (s.heap.push (seqObj "list" #[] 0)).update s.heap.objs.size (Obj.mapSeq (· ++ xs.toArray)) }) : wpAny (model prog w) A (collect (.ref p)) R E s := by
  obtain ⟨ob, hob, hcl, ep, hdt⟩ := id ht
  unfold collect
  refine wpAny_bind (wpAny_runValue (codeAny_builtin entry_proto_collect' (show wpAny _ _ (do again (.builtin "list.__iadd__" ⟨[← newList [], .ref p], []⟩)) _ _ s from ?_)))
  refine wpAny_bind (wpAny_newList (wpAny_pure ⟨Code.quiet_builtin _ (by decide +kernel), codeAny_builtin entry_list_iadd' (show wpAny _ _ (Builtin.List.listExtendWith (.ref s.heap.objs.size) (.ref p) (.ref s.heap.objs.size)) _ _ { s with heap := s.heap.push (seqObj "list" #[] 0) } from ?_)⟩))
  unfold Builtin.List.listExtendWith
  have hob' : (s.heap.push (seqObj "list" #[] 0)).get? p = some ob := Heap.get?_push_of_some _ hob
  refine wpAny_bind (wpAny_typeOf (T := "tuple") ⟨ob, hob', hcl⟩ ?_)
  have tt : (Value.type "tuple" == Value.type "tuple") = true := by rfl
  rw [if_pos (by rw [tt]; simp)]
  refine wpAny_bind (listItems_at hob' hdt (wpAny_bind (listItems_at (xs := #[]) (n := 0) (Heap.get?_push_size _ rfl) rfl ?_)))
  rw [if_neg (by simp)]
  refine wpAny_bind (listUpdate_at (xs := #[]) (n := 0) (Heap.get?_push_size _ rfl) rfl (wpAny_pure ?_) (Nat.zero_le _) (by show (#[] ++ xs.toArray).size ≤ sizeLine + 1; simp only [Array.size_append, List.size_toArray, List.length_nil]; omega))
  show wpAny (model prog w) A (load s.heap.objs.size >>= _) R E { s with heap := (s.heap.push (seqObj "list" #[] 0)).update s.heap.objs.size (Obj.mapSeq (· ++ xs.toArray)) }
  refine wpAny_bind (wpAny_load (get?_update_seq (Heap.get?_push_size _ rfl) _) (show wpAny _ _ (pure ((#[] : Array Value) ++ xs.toArray).toList) R E _ from ?_))
  have ex : ((#[] : Array Value) ++ xs.toArray).toList = xs := by simp
  rw [ex]
  exact wpAny_pure q
theorem sorted_tup {p : Addr} {xs : List Value} {ns : List Int} {Q : Value → Shared → Prop} (ht : s.heap.IsTuple p xs.toArray) (hz : xs.length ≤ sizeLine) (hi : IntsAre xs ns)
    (q : ∀ out : List Value, SrtO.Srtd SrtO.ltIv out → SrtO.Stb SrtO.ltIv out xs → Q (.ref (s.heap.objs.size + 1)) { s with heap := sortedAll s.heap xs out.toArray }) :
    wpAny (model prog w) A (call (.builtin "sorted") [.ref p]) Q E s := by
  refine Calls.call_function_entry kind_sorted plain_sorted entry_sorted (args_sorted1 _) ?_
  unfold Builtin.«sorted»
  refine wpAny_bind (m := checkCount "sorted" 1 1 _) (wpAny_pure (wpAny_bind (gather_tuple ht hz (wpAny_bind (wpAny_newList ?_ hz)))))
  have sz1 : ((s.heap.push (seqObj "list" #[] 0)).update s.heap.objs.size (Obj.mapSeq (· ++ xs.toArray))).objs.size = s.heap.objs.size + 1 := (Heap.size_update ..).trans (Heap.size_push ..)
  have hoL := Heap.get?_push_size ((s.heap.push (seqObj "list" #[] 0)).update s.heap.objs.size (Obj.mapSeq (· ++ xs.toArray))) (o := seqObj "list" xs.toArray 0) rfl
  rw [sz1] at hoL
  show wpAny _ _ _ _ _ { s with heap := ((s.heap.push (seqObj "list" #[] 0)).update s.heap.objs.size (Obj.mapSeq (· ++ xs.toArray))).push (seqObj "list" xs.toArray 0) }
  rw [sz1]
  exact wpAny_bind (wpAny_holding (wpAny_call_entry PyProof.Rows.slot_list_sort ⟨_, hoL, rfl⟩ PyProof.Rows.entry_list_sort (SrtO.list_sort_ord SrtO.swo_int hoL hz (fun h2 => SrtO.ints_sortable hi h2) fun out hs hb => ⟨_, rfl, wpAny_pure ⟨_, rfl, q out hs hb⟩⟩) (PyProof.Rows.args_list_sort _)))
end
def rSortT (K : PySem.W.Frag) : List V → Hp → VK → Prop := fun xs H Q => ∃ (a : Addr) (ns : List Int), xs = [V.ref a] ∧ SqT K H a (ns.map V.int) ∧ ∀ (ms : List Int) (p : Addr), ms.Perm ns → H p = none → Q (.ref p) (upd H p (.lst (ms.map V.int)))
theorem cr_sortTI {X : Cx} : CallR X (.builtin "sorted") (rSortT X.K) := by
  intro pins s σ H vs us Q I r h
  obtain ⟨a, ns, rfl, hs, q⟩ := h
  obtain ⟨its, rv, hl, hz⟩ := I.tuple hs
  rw [Vals.ref1 r]
  have hi := rv.ints
  refine sorted_tup hl (by rw [← rv.length]; exact hz) hi fun out h1 h2 => ?_
  obtain ⟨k1, k2, k3⟩ := SrtO.ints_out hi h1 h2
  obtain ⟨ep, he'⟩ := sortedAll_at s.heap its out.toArray
  have hlen : ((out.map SrtO.iv).map V.int).length ≤ sizeLine := by
    have := k2.length_eq
    simp only [List.length_map] at this hz ⊢
    omega
  exact ⟨.ref _, upd H (s.heap.objs.size + 1) (.lst ((out.map SrtO.iv).map V.int)), I.laid (t' := s.toks) (fun _ _ e => sortedAll_old e) (Nat.le_succ _) ⟨hlen, out, ep, vals_of_ints k1, he'⟩, rfl, q _ _ k2 (I.hok.fresh (Nat.le_succ _))⟩
end MB

set_option maxHeartbeats 4000000
namespace MB
/-- the first of the least among f 0 .. f n -/
def amin (f : Nat → Int) : Nat → Nat
  | 0 => 0
  | n + 1 => if f (n + 1) < f (amin f n) then n + 1 else amin f n
theorem amin_le (f : Nat → Int) : ∀ n, amin f n ≤ n
  | 0 => Nat.le_refl _
  | n + 1 => by
    have := amin_le f n
    unfold amin
    split <;> omega
theorem amin_min (f : Nat → Int) : ∀ n k, k ≤ n → f (amin f n) ≤ f k
  | 0, k, h => by
    have : k = 0 := by omega
    rw [this]
    exact Int.le_refl _
  | n + 1, k, h => by
    have ih := amin_min f n
    unfold amin
    split
    · rename_i hlt
      by_cases e : k = n + 1
      · rw [e]
        exact Int.le_refl _
      · have := ih k (by omega)
        omega
    · rename_i hlt
      by_cases e : k = n + 1
      · rw [e]
        omega
      · exact ih k (by omega)
theorem amin_first (f : Nat → Int) : ∀ n k, k < amin f n → f (amin f n) < f k
  | 0, k, h => by simp [amin] at h
  | n + 1, k, h => by
    have ih := amin_first f n
    have hm := amin_min f n
    unfold amin at h ⊢
    split at h
    · rename_i hlt
      rw [if_pos hlt]
      have := hm k (by omega)
      omega
    · rename_i hlt
      rw [if_neg hlt]
      exact ih k h
theorem amin_uniq {f : Nat → Int} {n a : Nat} (ha : a ≤ n) (h1 : ∀ k, k ≤ n → f a ≤ f k) (h2 : ∀ k, k < a → f a < f k) : amin f n = a := by
  rcases Nat.lt_trichotomy (amin f n) a with h | h | h
  · have := h2 _ h
    have := amin_min f n a ha
    omega
  · exact h
  · have := amin_first f n a h
    have := h1 _ (amin_le f n)
    omega
theorem amin_like {f g : Nat → Int} {n : Nat} (h : ∀ j k, j ≤ n → k ≤ n → (f j < f k ↔ g j < g k)) : amin f n = amin g n := by
  refine amin_uniq (amin_le g n) (fun k hk => ?_) (fun k hk => ?_)
  · have h1 := amin_min g n k hk
    have h2 := h k (amin g n) hk (amin_le g n)
    by_cases e : f k < f (amin g n)
    · have := h2.mp e; omega
    · omega
  · have h0 := amin_le g n
    exact (h _ _ (amin_le g n) (by omega)).mpr (amin_first g n k hk)
theorem amin_congr {f g : Nat → Int} {n : Nat} (h : ∀ k, k ≤ n → f k = g k) : amin f n = amin g n :=
  amin_like fun j k hj hk => by rw [h j hj, h k hk]
/-- the cost of the root i + k of the m flushes from i on -/
def cst (S R : Nat → Int) (i m k : Nat) : Int := S (i + k + 1) - S i + R (i + m) - R (i + k)
def lwF (S R : Nat → Int) : Nat → Nat → Nat → Int
  | 0, _, _ => 0
  | _ + 1, _, 0 => 0
  | f + 1, i, m + 1 => (fun k => lwF S R f i k + lwF S R f (i + k + 1) (m - k) + cst S R i (m + 1) k) (amin (fun k => lwF S R f i k + lwF S R f (i + k + 1) (m - k) + cst S R i (m + 1) k) m)
theorem lwF_eq (S R : Nat → Int) : ∀ f m i, m ≤ f → lwF S R f i m = lwF S R m i m := by
  have key : ∀ f, ∀ m i, m ≤ f → lwF S R (f + 1) i m = lwF S R f i m := by
    intro f
    induction f with
    | zero => intro m i h; have : m = 0 := by omega
              subst this; rfl
    | succ f ih =>
      intro m i h
      cases m with
      | zero => rfl
      | succ m =>
        have e : ∀ k, k ≤ m → lwF S R (f + 1) i k + lwF S R (f + 1) (i + k + 1) (m - k) + cst S R i (m + 1) k = lwF S R f i k + lwF S R f (i + k + 1) (m - k) + cst S R i (m + 1) k := fun k hk => by
          rw [ih k i (by omega), ih (m - k) (i + k + 1) (by omega)]
        show (fun k => lwF S R (f + 1) i k + lwF S R (f + 1) (i + k + 1) (m - k) + cst S R i (m + 1) k) (amin (fun k => lwF S R (f + 1) i k + lwF S R (f + 1) (i + k + 1) (m - k) + cst S R i (m + 1) k) m) = (fun k => lwF S R f i k + lwF S R f (i + k + 1) (m - k) + cst S R i (m + 1) k) (amin (fun k => lwF S R f i k + lwF S R f (i + k + 1) (m - k) + cst S R i (m + 1) k) m)
        rw [amin_congr e]
        exact e _ (amin_le _ _)
  intro f m i h
  induction f with
  | zero => have : m = 0 := by omega
            subst this; rfl
  | succ f ih =>
    by_cases e : m ≤ f
    · rw [key f m i e, ih e]
    · have : m = f + 1 := by omega
      rw [this]
/-- the least work of the m flushes from i on -/
def lw (S R : Nat → Int) (i m : Nat) : Int := lwF S R m i m
/-- the least work of the m + 1 flushes from i on with the root i + k -/
def via (S R : Nat → Int) (i m k : Nat) : Int := lw S R i k + lw S R (i + k + 1) (m - k) + cst S R i (m + 1) k
def rt (S R : Nat → Int) (i m : Nat) : Nat := amin (via S R i m) m
theorem lw_zero (S R : Nat → Int) (i : Nat) : lw S R i 0 = 0 := rfl
theorem lw_succ (S R : Nat → Int) (i m : Nat) : lw S R i (m + 1) = via S R i m (rt S R i m) := by
  have e : ∀ k, k ≤ m → lwF S R m i k + lwF S R m (i + k + 1) (m - k) + cst S R i (m + 1) k = via S R i m k := fun k hk => by
    rw [lwF_eq S R m k i hk, lwF_eq S R m (m - k) (i + k + 1) (by omega)]; rfl
  show (fun k => lwF S R m i k + lwF S R m (i + k + 1) (m - k) + cst S R i (m + 1) k) (amin (fun k => lwF S R m i k + lwF S R m (i + k + 1) (m - k) + cst S R i (m + 1) k) m) = _
  rw [amin_congr e]
  exact e _ (amin_le _ _)
theorem rt_le (S R : Nat → Int) (i m : Nat) : rt S R i m ≤ m := amin_le _ _
theorem lw_le (S R : Nat → Int) (i : Nat) {m k : Nat} (h : k ≤ m) : lw S R i (m + 1) ≤ via S R i m k := by
  rw [lw_succ]
  exact amin_min _ _ _ h
def ltF (S R : Nat → Int) : Nat → Nat → Nat → T
  | 0, _, _ => .nil
  | _ + 1, _, 0 => .nil
  | f + 1, i, m + 1 => .node (ltF S R f i (rt S R i m)) (ltF S R f (i + rt S R i m + 1) (m - rt S R i m))
theorem ltF_eq (S R : Nat → Int) : ∀ f m i, m ≤ f → ltF S R f i m = ltF S R m i m := by
  have key : ∀ f, ∀ m i, m ≤ f → ltF S R (f + 1) i m = ltF S R f i m := by
    intro f
    induction f with
    | zero => intro m i h; have : m = 0 := by omega
              subst this; rfl
    | succ f ih =>
      intro m i h
      cases m with
      | zero => rfl
      | succ m =>
        have hr := rt_le S R i m
        show T.node (ltF S R (f + 1) i (rt S R i m)) (ltF S R (f + 1) (i + rt S R i m + 1) (m - rt S R i m)) = T.node (ltF S R f i (rt S R i m)) (ltF S R f (i + rt S R i m + 1) (m - rt S R i m))
        rw [ih _ _ (by omega), ih _ _ (by omega)]
  intro f m i h
  induction f with
  | zero => have : m = 0 := by omega
            subst this; rfl
  | succ f ih =>
    by_cases e : m ≤ f
    · rw [key f m i e, ih e]
    · have : m = f + 1 := by omega
      rw [this]
/-- the tree of least roots of the m flushes from i on -/
def lt (S R : Nat → Int) (i m : Nat) : T := ltF S R m i m
theorem lt_zero (S R : Nat → Int) (i : Nat) : lt S R i 0 = .nil := rfl
theorem lt_succ (S R : Nat → Int) (i m : Nat) : lt S R i (m + 1) = .node (lt S R i (rt S R i m)) (lt S R (i + rt S R i m + 1) (m - rt S R i m)) := by
  have hr := rt_le S R i m
  show T.node (ltF S R m i (rt S R i m)) (ltF S R m (i + rt S R i m + 1) (m - rt S R i m)) = _
  rw [ltF_eq S R m _ i hr, ltF_eq S R m _ (i + rt S R i m + 1) (by omega)]; rfl
theorem lt_size (S R : Nat → Int) : ∀ m i, (lt S R i m).size = m := by
  intro m
  induction m using Nat.strongRecOn with
  | ind m ih =>
    intro i
    cases m with
    | zero => rfl
    | succ m =>
      have hr := rt_le S R i m
      rw [lt_succ]
      show (lt S R i (rt S R i m)).size + 1 + (lt S R (i + rt S R i m + 1) (m - rt S R i m)).size = m + 1
      rw [ih _ (by omega), ih _ (by omega)]
      omega
/-- only the differences count -/
theorem lw_shift {S R S' R' : Nat → Int} {d : Nat} {c c' : Int} : ∀ m i, (∀ j, i ≤ j → j ≤ i + m → S j = S' (j + d) + c ∧ R j = R' (j + d) + c') → lw S R i m = lw S' R' (i + d) m ∧ lt S R i m = lt S' R' (i + d) m := by
  intro m
  induction m using Nat.strongRecOn with
  | ind m ih =>
    intro i h
    cases m with
    | zero => exact ⟨rfl, rfl⟩
    | succ m =>
      have ev : ∀ k, k ≤ m → via S R i m k = via S' R' (i + d) m k := fun k hk => by
        have e1 := (ih k (by omega) i fun j h1 h2 => h j h1 (by omega)).1
        have e2 := (ih (m - k) (by omega) (i + k + 1) fun j h1 h2 => h j (by omega) (by omega)).1
        have a1 := (h (i + k + 1) (by omega) (by omega)).1
        have a2 := (h i (by omega) (by omega)).1
        have a3 := (h (i + (m + 1)) (by omega) (by omega)).2
        have a4 := (h (i + k) (by omega) (by omega)).2
        rw [show i + k + 1 + d = i + d + k + 1 by omega] at a1
        rw [show i + (m + 1) + d = i + d + (m + 1) by omega] at a3
        rw [show i + k + d = i + d + k by omega] at a4
        rw [show i + k + 1 + d = i + d + k + 1 by omega] at e2
        unfold via cst
        rw [e1, e2, a1, a2, a3, a4]
        omega
      have er : rt S R i m = rt S' R' (i + d) m := amin_congr ev
      have hr := rt_le S' R' (i + d) m
      refine ⟨?_, ?_⟩
      · rw [lw_succ, lw_succ, er]
        exact ev _ hr
      · rw [lt_succ, lt_succ, er]
        rw [(ih (rt S' R' (i + d) m) (by omega) i fun j h1 h2 => h j h1 (by omega)).2]
        rw [(ih (m - rt S' R' (i + d) m) (by omega) (i + rt S' R' (i + d) m + 1) fun j h1 h2 => h j (by omega) (by omega)).2]
        rw [show i + rt S' R' (i + d) m + 1 + d = i + d + rt S' R' (i + d) m + 1 by omega]
theorem rt_shift {S R S' R' : Nat → Int} {d : Nat} {c c' : Int} {m i : Nat} (h : ∀ j, i ≤ j → j ≤ i + (m + 1) → S j = S' (j + d) + c ∧ R j = R' (j + d) + c') : rt S R i m = rt S' R' (i + d) m := by
  refine amin_congr fun k hk => ?_
  have e1 := (lw_shift (S := S) (R := R) (S' := S') (R' := R') k i fun j h1 h2 => h j h1 (by omega)).1
  have e2 := (lw_shift (S := S) (R := R) (S' := S') (R' := R') (m - k) (i + k + 1) fun j h1 h2 => h j (by omega) (by omega)).1
  have a1 := (h (i + k + 1) (by omega) (by omega)).1
  have a2 := (h i (by omega) (by omega)).1
  have a3 := (h (i + (m + 1)) (by omega) (by omega)).2
  have a4 := (h (i + k) (by omega) (by omega)).2
  rw [show i + k + 1 + d = i + d + k + 1 by omega] at a1
  rw [show i + (m + 1) + d = i + d + (m + 1) by omega] at a3
  rw [show i + k + d = i + d + k by omega] at a4
  rw [show i + k + 1 + d = i + d + k + 1 by omega] at e2
  unfold via cst
  rw [e1, e2, a1, a2, a3, a4]
  omega
theorem lw_scale {S R : Nat → Int} {c : Int} (hc : 0 < c) : ∀ m i, lw (fun j => c * S j) (fun j => c * R j) i m = c * lw S R i m := by
  intro m
  induction m using Nat.strongRecOn with
  | ind m ih =>
    intro i
    cases m with
    | zero => rw [lw_zero, lw_zero, Int.mul_zero]
    | succ m =>
      have ev : ∀ k, k ≤ m → via (fun j => c * S j) (fun j => c * R j) i m k = c * via S R i m k := fun k hk => by
        unfold via cst
        rw [ih k (by omega), ih (m - k) (by omega)]
        simp only [Int.mul_add, Int.mul_sub]
      have er : rt (fun j => c * S j) (fun j => c * R j) i m = rt S R i m := amin_like fun j k hj hk => by
        rw [ev j hj, ev k hk]
        exact Int.mul_lt_mul_left hc
      rw [lw_succ, lw_succ, er]
      exact ev _ (rt_le _ _ _ _)
theorem rt_scale {S R : Nat → Int} {c : Int} (hc : 0 < c) (i m : Nat) : rt (fun j => c * S j) (fun j => c * R j) i m = rt S R i m :=
  amin_like fun j k hj hk => by
    have ev : ∀ k, k ≤ m → via (fun j => c * S j) (fun j => c * R j) i m k = c * via S R i m k := fun k hk => by
      unfold via cst
      rw [lw_scale hc, lw_scale hc]
      simp only [Int.mul_add, Int.mul_sub]
    rw [ev j hj, ev k hk]
    exact Int.mul_lt_mul_left hc
theorem lw_add {S R S' R' : Nat → Int} : ∀ m i, lw S R i m + lw S' R' i m ≤ lw (fun j => S j + S' j) (fun j => R j + R' j) i m := by
  intro m
  induction m using Nat.strongRecOn with
  | ind m ih =>
    intro i
    cases m with
    | zero => rw [lw_zero, lw_zero, lw_zero]; decide
    | succ m =>
      rw [lw_succ (fun j => S j + S' j)]
      generalize hk : rt (fun j => S j + S' j) (fun j => R j + R' j) i m = k
      have hk2 : k ≤ m := by rw [← hk]; exact rt_le _ _ _ _
      have h1 := lw_le S R i hk2
      have h2 := lw_le S' R' i hk2
      have h3 := ih k (by omega) i
      have h4 := ih (m - k) (by omega) (i + k + 1)
      unfold via cst at *
      dsimp only at *
      omega
def Mono (S : Nat → Int) : Prop := ∀ a b, a ≤ b → S a ≤ S b
theorem lw_nonneg {S R : Nat → Int} (hS : Mono S) (hR : Mono R) : ∀ m i, 0 ≤ lw S R i m := by
  intro m
  induction m using Nat.strongRecOn with
  | ind m ih =>
    intro i
    cases m with
    | zero => exact Int.le_refl _
    | succ m =>
      rw [lw_succ]
      have hk2 := rt_le S R i m
      generalize rt S R i m = k at hk2 ⊢
      have h3 := ih k (by omega) i
      have h4 := ih (m - k) (by omega) (i + k + 1)
      have h5 := hS i (i + k + 1) (by omega)
      have h6 := hR (i + k) (i + (m + 1)) (by omega)
      unfold via cst
      omega
theorem lw_last {S R : Nat → Int} (hS : Mono S) (hR : Mono R) : ∀ m i, lw S R i m + (S (i + m + 1) - S (i + m)) + (R (i + m + 1) - R (i + m)) ≤ lw S R i (m + 1) := by
  intro m
  induction m using Nat.strongRecOn with
  | ind m ih =>
    intro i
    rw [lw_succ]
    have hk2 := rt_le S R i m
    generalize rt S R i m = k at hk2 ⊢
    by_cases e : k = m
    · subst e
      unfold via cst
      rw [Nat.sub_self, lw_zero]
      have := hS i (i + k) (by omega)
      rw [show i + (k + 1) = i + k + 1 by omega]
      omega
    · obtain ⟨m', rfl⟩ : ∃ m', m = m' + 1 := ⟨m - 1, by omega⟩
      have h3 := ih (m' - k) (by omega) (i + k + 1)
      rw [show i + k + 1 + (m' - k) + 1 = i + (m' + 1) + 1 by omega, show i + k + 1 + (m' - k) = i + (m' + 1) by omega, show m' - k + 1 = m' + 1 - k by omega] at h3
      have h4 := lw_le S R i (show k ≤ m' by omega)
      have h5 := hR (i + (m' + 1)) (i + (m' + 1) + 1) (by omega)
      unfold via cst at *
      rw [show i + (m' + 1 + 1) = i + (m' + 1) + 1 by omega]
      omega
theorem lw_front {S R : Nat → Int} (hS : Mono S) (hR : Mono R) : ∀ m i, lw S R (i + 1) m ≤ lw S R i (m + 1) := by
  intro m
  induction m using Nat.strongRecOn with
  | ind m ih =>
    intro i
    rw [lw_succ S R i]
    have hk2 := rt_le S R i m
    generalize rt S R i m = k at hk2 ⊢
    cases k with
    | zero =>
      unfold via cst
      rw [lw_zero]
      have h5 := hS i (i + 0 + 1) (by omega)
      have h6 := hR (i + 0) (i + (m + 1)) (by omega)
      rw [Nat.sub_zero]
      rw [show i + 0 + 1 = i + 1 by omega] at *
      omega
    | succ k =>
      obtain ⟨m', rfl⟩ : ∃ m', m = m' + 1 := ⟨m - 1, by omega⟩
      have h3 := ih k (by omega) i
      have h4 := lw_le S R (i + 1) (show k ≤ m' by omega)
      have h5 := hS i (i + 1) (by omega)
      unfold via cst at *
      rw [show i + 1 + k + 1 = i + (k + 1) + 1 by omega, show i + 1 + (m' + 1) = i + (m' + 1 + 1) by omega, show i + 1 + k = i + (k + 1) by omega] at h4
      rw [show m' + 1 - (k + 1) = m' - k by omega]
      omega
theorem lw_join {S R : Nat → Int} (hS : Mono S) (hR : Mono R) {i m k : Nat} (h : k ≤ m) : lw S R i m ≤ lw S R i k + lw S R (i + k) (m - k) + (S (i + k) - S i + R (i + m) - R (i + k)) := by
  cases k with
  | zero =>
    rw [lw_zero, Nat.sub_zero, Nat.add_zero]
    have := hR i (i + m) (by omega)
    omega
  | succ k =>
    obtain ⟨m', rfl⟩ : ∃ m', m = m' + 1 := ⟨m - 1, by omega⟩
    have h1 := lw_last hS hR k i
    have h2 := lw_le S R i (show k ≤ m' by omega)
    have h3 := hS (i + k) (i + k + 1) (by omega)
    unfold via cst at h2
    rw [show m' + 1 - (k + 1) = m' - k by omega, show i + (k + 1) = i + k + 1 by omega]
    omega
def insS (S : Nat → Int) (p : Nat) : Nat → Int := fun j => if j ≤ p then S j else S (j - 1)
theorem lw_before {S R : Nat → Int} {p i m : Nat} (h : i + m ≤ p) : lw (insS S p) (insS R p) i m = lw S R i m := by
  refine (lw_shift (S := insS S p) (R := insS R p) (S' := S) (R' := R) (d := 0) (c := 0) (c' := 0) m i fun j h1 h2 => ?_).1
  unfold insS
  rw [if_pos (by omega), if_pos (by omega)]
  simp
theorem lw_behind {S R : Nat → Int} {p i m : Nat} (h : p < i) : lw S R (i - 1) m = lw (insS S p) (insS R p) i m := by
  have := (lw_shift (S := S) (R := R) (S' := insS S p) (R' := insS R p) (d := 1) (c := 0) (c' := 0) m (i - 1) fun j h1 h2 => ?_).1
  · rw [this, show i - 1 + 1 = i by omega]
  · unfold insS
    rw [if_neg (by omega), if_neg (by omega)]
    simp
theorem lw_ins {S R : Nat → Int} (hS : Mono S) (hR : Mono R) {p : Nat} : ∀ m i, i ≤ p → p ≤ i + m → lw S R i m ≤ lw (insS S p) (insS R p) i (m + 1) := by
  intro m
  induction m using Nat.strongRecOn with
  | ind m ih =>
    intro i hi hp
    rw [lw_succ (insS S p)]
    have hk2 := rt_le (insS S p) (insS R p) i m
    generalize rt (insS S p) (insS R p) i m = k at hk2 ⊢
    have sL : ∀ {F : Nat → Int} {j : Nat}, j ≤ p → insS F p j = F j := fun h => if_pos h
    have sR : ∀ {F : Nat → Int} {j : Nat}, p < j → insS F p j = F (j - 1) := fun h => if_neg (by omega)
    rcases Nat.lt_trichotomy (i + k) p with h | h | h
    · obtain ⟨m', rfl⟩ : ∃ m', m = m' + 1 := ⟨m - 1, by omega⟩
      have h1 := ih (m' - k) (by omega) (i + k + 1) (by omega) (by omega)
      rw [show m' - k + 1 = m' + 1 - k by omega] at h1
      have h2 := lw_le S R i (show k ≤ m' by omega)
      unfold via cst at *
      rw [lw_before (by omega), sL (F := S) (j := i + k + 1) (by omega), sL (F := S) (j := i) (by omega), sR (F := R) (j := i + (m' + 1 + 1)) (by omega), sL (F := R) (j := i + k) (by omega), show i + (m' + 1 + 1) - 1 = i + (m' + 1) by omega]
      omega
    · have h1 := lw_join hS hR (i := i) (m := m) (k := k) hk2
      unfold via cst
      rw [lw_before (by omega), ← lw_behind (by omega), sR (F := S) (j := i + k + 1) (by omega), sL (F := S) (j := i) (by omega), sR (F := R) (j := i + (m + 1)) (by omega), sL (F := R) (j := i + k) (by omega), show i + (m + 1) - 1 = i + m by omega, show i + k + 1 - 1 = i + k by omega]
      omega
    · obtain ⟨k', rfl⟩ : ∃ k', k = k' + 1 := ⟨k - 1, by omega⟩
      obtain ⟨m', rfl⟩ : ∃ m', m = m' + 1 := ⟨m - 1, by omega⟩
      have h1 := ih k' (by omega) i (by omega) (by omega)
      have h2 := lw_le S R i (show k' ≤ m' by omega)
      unfold via cst at *
      rw [← lw_behind (p := p) (i := i + (k' + 1) + 1) (by omega), sR (F := S) (j := i + (k' + 1) + 1) (by omega), sL (F := S) (j := i) (by omega), sR (F := R) (j := i + (m' + 1 + 1)) (by omega), sR (F := R) (j := i + (k' + 1)) (by omega), show i + (m' + 1 + 1) - 1 = i + (m' + 1) by omega, show i + (k' + 1) + 1 - 1 = i + k' + 1 by omega, show i + (k' + 1) - 1 = i + k' by omega, show m' + 1 - (k' + 1) = m' - k' by omega]
      omega
/-- sums of the first ones -/
def sm (l : List Int) (k : Nat) : Int := (l.take k).sum
theorem sm_zero (l : List Int) : sm l 0 = 0 := by simp [sm]
theorem sm_succ {l : List Int} {k : Nat} {x : Int} (h : l[k]? = some x) : sm l (k + 1) = sm l k + x := by
  unfold sm
  rw [List.take_add_one, h, Option.toList_some, List.sum_append]
  simp
theorem sm_mono {l : List Int} (h : ∀ x, x ∈ l → 0 ≤ x) : Mono (sm l) := by
  intro a b hab
  induction b with
  | zero => have : a = 0 := by omega
            subst this; exact Int.le_refl _
  | succ b ih =>
    by_cases e : a = b + 1
    · rw [e]; exact Int.le_refl _
    · have h1 := ih (by omega)
      cases hx : l[b]? with
      | none =>
        have : sm l (b + 1) = sm l b := by
          unfold sm
          rw [List.take_add_one, hx]
          simp
        omega
      | some x =>
        have := h x (List.mem_of_getElem? hx)
        rw [sm_succ hx]
        omega
end MB

set_option maxHeartbeats 4000000
namespace MB
open PySem PySem.Spec PyProof.Rows L2
/-! ### min of a list of pairs of ints -/
def dP (p : Int × Int) : PyData := .tuple [.int p.1, .int p.2]
theorem dP_toD (p : Int × Int) : PySem.W.Datum.toD p = dP p := rfl
theorem dP_map (ps : List (Int × Int)) : ps.map PySem.W.Datum.toD = ps.map dP := rfl
theorem depth_dP : ∀ ps : List (Int × Int), PyData.depthAll (ps.map dP) ≤ 1
  | [] => by simp [PyData.depthAll]
  | p :: ps => by
    have := depth_dP ps
    simp only [List.map_cons, PyData.depthAll, dP, PyData.depth] at *
    omega
theorem vals_at : ∀ {xs : List V} {its : List Value}, Vals xs its → ∀ {i : Nat} {v : Value}, its[i]? = some v → ∃ x, xs[i]? = some x ∧ RelV x v
  | _, _, .nil, i, v, h => by simp at h
  | _, _, .cons r rr, 0, v, h => by
    simp at h
    subst h
    exact ⟨_, rfl, r⟩
  | _, _, .cons r rr, i + 1, v, h => by
    obtain ⟨x, h1, h2⟩ := vals_at rr (i := i) (v := v) (by simpa using h)
    exact ⟨x, by simpa using h1, h2⟩
def rMinP (K : PySem.W.Frag) : List V → Hp → VK → Prop := fun xs H Q => ∃ (a : Addr) (us : List V) (p : Int × Int) (ps : List (Int × Int)), xs = [V.ref a] ∧ SqL K H a us ∧ DpAll K H us ((p :: ps).map dP) ∧ ∀ b, SqT K H b [V.int (PySem.W.minOf p ps).1, V.int (PySem.W.minOf p ps).2] → Q (.ref b) H
theorem minOf_mem (p : Int × Int) : ∀ ps : List (Int × Int), PySem.W.minOf p ps ∈ p :: ps := by
  intro ps
  unfold PySem.W.minOf
  induction ps generalizing p with
  | nil => simp
  | cons q ps ih =>
    rw [List.foldl_cons]
    have := ih (if PySem.W.DatumOrd.lt q p = true then q else p)
    rcases List.mem_cons.mp this with h | h
    · rw [h]
      split <;> simp
    · exact List.mem_cons_of_mem _ (List.mem_cons_of_mem _ h)
theorem cr_minP {X : Cx} {K : PySem.W.Frag} (hK : X.K = K) (hc : X.calm = true) (hu : X.A.units + 64 < cLine) : CallR X (.builtin "min") (rMinP K) := by
  subst hK
  intro pins s σ H vs us Q I r h
  obtain ⟨a, xs, p, ps, rfl, hs, hA, q⟩ := h
  obtain ⟨its, rv, hl, _⟩ := I.list hs
  rw [Vals.ref1 r]
  obtain ⟨as, rd⟩ := Dp.readsAll I _ _ its hA rv
  refine PySem.W.min_list_data (x := dP p) (xs := ps.map dP) (I.ok.hd hc) hl.isList (by simpa using rd) (PySem.W.alikeAll_datum (p :: ps)) ?_ fun i v h' tk bs hv hr hk => ?_
  · have := depth_dP (p :: ps)
    rw [List.map_cons] at this
    omega
  · have e := PySem.W.minD_map p ps
    rw [dP_map, dP_toD] at e
    rw [e, dP_toD] at hr
    generalize hm : PySem.W.minOf p ps = m at hr q
    obtain ⟨x, hx, rx⟩ := vals_at rv (i := i) (v := v) (by simpa using hv)
    have hi : i < ((p :: ps).map dP).length := by
      rw [← DpAll.len hA]
      exact (List.getElem?_eq_some_iff.mp hx).1
    obtain ⟨y, hy, hD⟩ := DpAll.get hA (List.getElem?_eq_getElem hi)
    rw [hx] at hy
    cases hy
    rw [List.getElem_map] at hD
    generalize (p :: ps)[i]'_ = pr at hD
    obtain ⟨m1, m2⟩ := m
    obtain ⟨n1, n2⟩ := pr
    obtain ⟨b, ys, rfl, hS, hB⟩ := Dp.tupInv hD
    have ey := dp_ints_inv (ns := [n1, n2]) hB
    subst ey
    cases rx
    obtain ⟨jts, rj, ho, _⟩ := I.tuple hS
    obtain ⟨o, ho1, ho2, n, ho3⟩ := ho
    have ho4 := hk _ _ ho1
    cases hr with
    | tuple g1 g2 g3 g4 =>
      rw [ho4] at g1
      cases g1
      rw [ho3] at g3
      cases g3
      cases rj with
      | cons r1 r2 =>
        cases r2 with
        | cons r3 r4 =>
          cases r4
          obtain ⟨t1, rfl⟩ := r1
          obtain ⟨t2, rfl⟩ := r3
          have e2 : (m1, m2) = (n1, n2) := by
            cases g4 with
            | cons k1 k2 =>
              cases k2 with
              | cons k3 k4 =>
                cases k1
                cases k3
                rfl
          refine ⟨.ref b, H, I.kept hk, rfl, q b ?_⟩
          rw [e2]
          exact hS
/-- the least pair, if the second ones ascend by one -/
theorem minOf_amin (f : Nat → Int) (b : Nat) : ∀ n, PySem.W.minOf (f 0, (b : Int)) ((List.range n).map fun j => (f (j + 1), ((b + (j + 1) : Nat) : Int))) = (f (amin f n), ((b + amin f n : Nat) : Int))
  | 0 => rfl
  | n + 1 => by
    have ih := minOf_amin f b n
    unfold PySem.W.minOf at ih ⊢
    rw [List.range_succ, List.map_append, List.foldl_append, ih]
    show (if (if f (n + 1) = f (amin f n) then decide (((b + (n + 1) : Nat) : Int) < ((b + amin f n : Nat) : Int)) else decide (f (n + 1) < f (amin f n))) = true then (f (n + 1), ((b + (n + 1) : Nat) : Int)) else (f (amin f n), ((b + amin f n : Nat) : Int))) = _
    have hl := amin_le f n
    have ea : amin f (n + 1) = if f (n + 1) < f (amin f n) then n + 1 else amin f n := rfl
    rw [ea]
    generalize amin f n = c at hl ⊢
    by_cases h1 : f (n + 1) = f c
    · rw [if_pos h1, if_neg (by simp; omega), if_neg (by omega)]
    · rw [if_neg h1]
      by_cases h2 : f (n + 1) < f c
      · rw [if_pos (by simpa using h2), if_pos h2]
      · rw [if_neg (by simpa using h2), if_neg h2]
/-! ### an index of a list or a tuple -/
def SqQ (K : PySem.W.Frag) (H : Hp) (a : Addr) (xs : List V) : Prop := SqL K H a xs ∨ SqT K H a xs
def rIxQ (K : PySem.W.Frag) : R2 := fun x y H Q => ∃ p xs i v, x = .ref p ∧ y = .int i ∧ SqQ K H p xs ∧ atI xs i = some v ∧ Q v H
theorem k_ixQ {X : Cx} {K : PySem.W.Frag} (hK : X.K = K) : IxR X (rIxQ K) := by
  subst hK
  intro value slice pins s σ H x y v u Q I rx ry h hs
  obtain ⟨p, xs, i, w, rfl, rfl, hq, ha, q⟩ := h
  rcases hq with hq | hq
  · exact ix_list value slice pins s σ H _ _ v u Q I rx ry ⟨p, xs, i, w, rfl, rfl, hq, ha, q⟩ hs
  · exact ix_tup value slice pins s σ H _ _ v u Q I rx ry ⟨p, xs, i, w, rfl, rfl, hq, ha, q⟩ hs
/-! ### zip of two tuples -/
theorem walk_zipT {K : PySem.W.Frag} {a b : Addr} {xs ys : List V} {n : Nat} (hn : n = min xs.length ys.length) : Walk (RZ.ItzT K a b) n (fun H => SqT K H a xs ∧ SqT K H b ys) (YPair (fun i => xs[i]?) (fun i => ys[i]?)) := by
  refine ⟨fun i H hi ⟨qx, qy⟩ => ⟨xs, ys, xs[i]'(by omega), ys[i]'(by omega), qx, qy, List.getElem?_eq_getElem (by omega), List.getElem?_eq_getElem (by omega)⟩, fun H ⟨qx, qy⟩ => ⟨xs, ys, qx, qy, by omega⟩, fun i H v H' hi ⟨qx, qy⟩ y => ?_⟩
  obtain ⟨T, u, z, e1, e2, e3, e4, e5⟩ := y
  exact ⟨T, u, z, e1, e2, e3, e4 xs qx, e5 ys qy⟩
end MB

set_option maxHeartbeats 4000000
namespace MB
open PySem PySem.Spec PyProof.Rows L2
/-- the least of some pairs -/
def minP : List (Int × Int) → Option (Int × Int)
  | [] => none
  | p :: ps => some (PySem.W.minOf p ps)
theorem minP_mem {l : List (Int × Int)} {p : Int × Int} (h : minP l = some p) : p ∈ l := by
  cases l with
  | nil => cases h
  | cons q l =>
    simp only [minP, Option.some.injEq] at h
    rw [← h]
    exact minOf_mem q l
theorem minP_none {l : List (Int × Int)} : minP l = none ↔ l = [] := by
  cases l <;> simp [minP]
/-! ### min(list of pairs, default=d) -/
def rMinPD (K : PySem.W.Frag) : List V → List V → Hp → VK → Prop := fun xs zs H Q => ∃ (a : Addr) (us : List V) (ps : List (Int × Int)) (z : V), xs = [V.ref a] ∧ zs = [z] ∧ SqL K H a us ∧ DpAll K H us (ps.map dP) ∧ (ps = [] → Q z H) ∧ ∀ p, minP ps = some p → ∀ b, SqT K H b [V.int p.1, V.int p.2] → Q (.ref b) H
theorem cr_minPD {X : Cx} {K : PySem.W.Frag} (hK : X.K = K) (hc : X.calm = true) (hu : X.A.units + 64 < cLine) : CallRK X (.builtin "min") [Str.ofString "default"] (rMinPD K) := by
  subst hK
  intro pins s σ H vs zs us ws Q I r rz h
  obtain ⟨a, xs, ps, z, rfl, rfl, hs, hA, q0, q1⟩ := h
  obtain ⟨its, rv, hl, _⟩ := I.list hs
  rw [Vals.ref1 r]
  obtain ⟨u, rfl, ru⟩ := vals1 rz
  obtain ⟨as, rd⟩ := Dp.readsAll I _ _ its hA rv
  refine PySem.W.min_list_default (xs := ps.map dP) (I.ok.hd hc) hl.isList (by simpa using rd) (PySem.W.alikeAll_datum ps) ?_ (fun e h' tk hk => ?_) fun y ys i v h' tk bs e hv hr hk => ?_
  · have := depth_dP ps
    omega
  · exact ⟨z, H, I.kept hk, ru, q0 (List.map_eq_nil_iff.mp e)⟩
  · cases ps with
    | nil => cases e
    | cons p ps =>
      rw [List.map_cons] at e
      cases e
      have e := PySem.W.minD_map p ps
      rw [dP_map, dP_toD] at e
      rw [e, dP_toD] at hr
      generalize hm : PySem.W.minOf p ps = m at hr
      have q2 := q1 m (by simp only [minP, hm])
      obtain ⟨x, hx, rx⟩ := vals_at rv (i := i) (v := v) (by simpa using hv)
      have hi : i < ((p :: ps).map dP).length := by
        rw [← DpAll.len hA]
        exact (List.getElem?_eq_some_iff.mp hx).1
      obtain ⟨y, hy, hD⟩ := DpAll.get hA (List.getElem?_eq_getElem hi)
      rw [hx] at hy
      cases hy
      rw [List.getElem_map] at hD
      generalize (p :: ps)[i]'_ = pr at hD
      obtain ⟨m1, m2⟩ := m
      obtain ⟨n1, n2⟩ := pr
      obtain ⟨b, ys, rfl, hS, hB⟩ := Dp.tupInv hD
      have ey := dp_ints_inv (ns := [n1, n2]) hB
      subst ey
      cases rx
      obtain ⟨jts, rj, ho, _⟩ := I.tuple hS
      obtain ⟨o, ho1, ho2, n, ho3⟩ := ho
      have ho4 := hk _ _ ho1
      cases hr with
      | tuple g1 g2 g3 g4 =>
        rw [ho4] at g1
        cases g1
        rw [ho3] at g3
        cases g3
        cases rj with
        | cons r1 r2 =>
          cases r2 with
          | cons r3 r4 =>
            cases r4
            obtain ⟨t1, rfl⟩ := r1
            obtain ⟨t2, rfl⟩ := r3
            have e2 : (m1, m2) = (n1, n2) := by
              cases g4 with
              | cons k1 k2 =>
                cases k2 with
                | cons k3 k4 =>
                  cases k1
                  cases k3
                  rfl
            refine ⟨.ref b, H, I.kept hk, rfl, q2 b ?_⟩
            rw [e2]
            exact hS
end MB

set_option maxHeartbeats 4000000
namespace MB
open PySem PySem.Spec PyProof.Rows L2
/-! ### zip of a tuple and a list -/
def ItzM (K : PySem.W.Frag) (a b : Addr) : It where
  go := fun i H => ∃ xs ys x y, SqT K H a xs ∧ SqL K H b ys ∧ xs[i]? = some x ∧ ys[i]? = some y
  yld := fun i H v H' => ∃ N x y, v = .ref N ∧ H N = none ∧ H' = upd H N (.tup [x, y]) ∧ (∀ xs, SqT K H a xs → xs[i]? = some x) ∧ (∀ ys, SqL K H b ys → ys[i]? = some y)
  stop := fun i H => ∃ xs ys, SqT K H a xs ∧ SqL K H b ys ∧ i = min xs.length ys.length
theorem apart_sep {z TI TO i1 i2 a b : Addr} (D : ZipApart z TI TO i1 i2 a b) (ha : a ≠ TO) (hb : b ≠ TO) (hb1 : b ≠ i1) (ha2 : a ≠ i2) (haz : a ≠ z) (hbz : b ≠ z) : ZipSep2 z TI TO i1 i2 [i1, a] [i2, b] where
  TIz := D.TIz
  TOz := D.TOz
  TITO := D.TITO
  TIi1 := D.TIi1
  TIi2 := D.TIi2
  mem1 := by simp
  mem2 := by simp
  zf1 := by simp only [List.mem_cons, List.not_mem_nil, or_false, not_or]; exact ⟨D.i1z.symm, haz.symm⟩
  zf2 := by simp only [List.mem_cons, List.not_mem_nil, or_false, not_or]; exact ⟨D.i2z.symm, hbz.symm⟩
  Tf1 := by simp only [List.mem_cons, List.not_mem_nil, or_false, not_or]; exact ⟨D.TOi1, ha.symm⟩
  Tf2 := by simp only [List.mem_cons, List.not_mem_nil, or_false, not_or]; exact ⟨D.TOi2, hb.symm⟩
  sep1_2 := by simp only [List.mem_cons, List.not_mem_nil, or_false, not_or]; exact ⟨D.i12, hb1.symm⟩
  sep2_1 := by simp only [List.mem_cons, List.not_mem_nil, or_false, not_or]; exact ⟨D.i12.symm, ha2.symm⟩
def StM (z TI TO i1 i2 a b : Addr) (i : Nat) (h : Heap) : Prop := IsZip h z TI TO .none ∧ IsPair h TI (.ref i1) (.ref i2) ∧ (∃ x y, IsPair h TO x y) ∧ h.IsTupleIter i1 a i ∧ h.IsListIter i2 b i
theorem in5 {c z TI TO i1 i2 : Addr} (h : c ∈ [z, TI, TO, i1, i2]) : c = z ∨ c = TI ∨ c = TO ∨ c = i1 ∨ c = i2 := by simpa using h
theorem turn_zipM {P : Program} {w : World} {K : PySem.W.Frag} {elts : List Expr} {kk : Nat} {tpos : Pos} {a b z TI TO i1 i2 : Addr} (D : ZipApart z TI TO i1 i2 a b) (S : ZipSep2 z TI TO i1 i2 [i1, a] [i2, b]) (hai : a ≠ i1) (hbi : b ≠ i2) :
    Turn P w K (.Tuple elts kk tpos) (ItzM K a b) [z, TI, TO, i1, i2] z (StM z TI TO i1 i2 a b) where
  mem := List.mem_cons_self ..
  obj := fun i h st c hc => by
    obtain ⟨q1, q2, ⟨x, y, q3⟩, ⟨o1, q4, _, q5⟩, ⟨o2, q6, _, q7⟩⟩ := st
    rcases in5 hc with e | e | e | e | e <;> subst e
    · exact ⟨_, q1, fun v e => nomatch e⟩
    · exact ⟨_, q2, fun v e => nomatch e⟩
    · exact ⟨_, q3, fun v e => nomatch e⟩
    · exact ⟨o1, q4, fun v e => by rw [q5] at e; cases e⟩
    · exact ⟨o2, q6, fun v e => by rw [q7] at e; cases e⟩
  keep := fun i h h' ⟨q1, q2, ⟨x, y, q3⟩, q4, q5⟩ k =>
    ⟨k z (by simp) _ q1, k TI (by simp) _ q2, ⟨x, y, k TO (by simp) _ q3⟩, q4.at fun o e => k i1 (by simp) o e, q5.at fun o e => k i2 (by simp) o e⟩
  item := by
    intro X hP hw hK hc i pins s σ H E I hf st hg
    subst hP hw hK
    obtain ⟨q1, q2, ⟨x0, y0, q3⟩, q4, q5⟩ := st
    obtain ⟨xs, ys, x, y, sx, sy, gx, gy⟩ := hg
    obtain ⟨its, rv, tp, _⟩ := I.tuple sx
    obtain ⟨jts, rw', lp, _⟩ := I.list sy
    obtain ⟨u, hu, ru⟩ := rv.get gx
    obtain ⟨v, hv, rv'⟩ := rw'.get gy
    have zl : z < s.heap.objs.size := Heap.lt_size q1
    have hi1 : i < its.toArray.size := by
      have := (List.getElem?_eq_some_iff.mp hu).1
      simpa using this
    have hi2 : i < jts.toArray.size := by
      have := (List.getElem?_eq_some_iff.mp hv).1
      simpa using this
    refine wpAny_pyNext_zipD2_item S (Draws.tuple (prog := X.prog) (w := X.w) (A := X.A.in1) (I.ok.hd hc) i1 a hai its.toArray) (Draws.list (prog := X.prog) (w := X.w) (A := X.A.in1) (I.ok.hd hc) i2 b hbi jts.toArray) q1 q2 q3 ⟨q4, tp⟩ ⟨q5, lp.isList⟩ hi1 hi2 fun u' v' h' tk e1 e2 z' TO' s1' s2' hT hsz hk => ?_
    have eu : u' = u := by
      rw [List.getElem?_toArray, hu] at e1
      exact (Option.some.inj e1).symm
    have ev : v' = v := by
      rw [List.getElem?_toArray, hv] at e2
      exact (Option.some.inj e2).symm
    subst eu ev
    refine ⟨_, rfl, wpAny_letOwnedTupleGo_zip (s := { s with heap := h', toks := tk }) z' fun h'' z'' sb => ?_⟩
    have hT2 := (sb.2 _ (Nat.ne_of_gt zl)).trans hT
    have new : ObjOk X.prog X.w (upd H s.heap.objs.size (.tup [x, y])) h'' s.heap.objs.size (.tup [x, y]) := ⟨by show 2 ≤ sizeLine; decide, [u', v'], .cons ru (.cons rv' .nil), ⟨_, hT2, rfl, _, rfl⟩⟩
    have hk2 : ∀ c o, c ∉ [z, TI, TO, i1, i2] → s.heap.get? c = some o → h''.get? c = some o := fun c o hb e => by
      simp only [List.mem_cons, List.not_mem_nil, or_false, not_or] at hb
      exact (sb.2 c hb.1).trans (hk c o hb.1 hb.2.2.1 hb.2.2.2.1 hb.2.2.2.2 e)
    have I1 : Inv X pins σ (upd H s.heap.objs.size (.tup [x, y])) { s with heap := h'', toks := tk } := I.turnedNew (t' := tk) (ch := [z, TI, TO, i1, i2]) hk2 hf (Nat.le_refl _) new
    refine ⟨.ref s.heap.objs.size, _, I1, rfl, ⟨s.heap.objs.size, x, y, rfl, I.hok.fresh (Nat.le_refl _), rfl, fun l hl => ?_, fun l hl => ?_⟩, ⟨z'', (sb.2 TI D.TIz).trans (hk TI _ D.TIz D.TITO D.TIi1 D.TIi2 q2), ⟨u', v', (sb.2 TO D.TOz).trans TO'⟩, s1'.1.at fun o e => (sb.2 i1 D.i1z).trans e, s2'.1.at fun o e => (sb.2 i2 D.i2z).trans e⟩, fun c hcm => ?_⟩
    · rw [I.tuple_inj hl sx]; exact gx
    · rw [I.list_inj hl sy]; exact gy
    · have cl : c < s.heap.objs.size := by
        obtain ⟨o1, d1, _⟩ := q4
        obtain ⟨o2, d2, _⟩ := q5
        rcases in5 hcm with e | e | e | e | e <;> rw [e]
        · exact zl
        · exact Heap.lt_size q2
        · exact Heap.lt_size q3
        · exact Heap.lt_size d1
        · exact Heap.lt_size d2
      rw [upd_ne (Nat.ne_of_lt cl)]
      exact (hf c hcm).1
  done := by
    intro X hP hw hK hc i pins s σ H E I hf st hg
    subst hP hw hK
    obtain ⟨q1, q2, ⟨x0, y0, q3⟩, q4, q5⟩ := st
    obtain ⟨xs, ys, sx, sy, gend⟩ := hg
    obtain ⟨its, rv, tp, _⟩ := I.tuple sx
    obtain ⟨jts, rw', lp, _⟩ := I.list sy
    have e1 := rv.length
    have e2 := rw'.length
    have hl1 : its.toArray.size = xs.length := by simp [e1]
    have hl2 : jts.toArray.size = ys.length := by simp [e2]
    refine wpAny_pyNext_zipD2_end S (Draws.tuple (prog := X.prog) (w := X.w) (A := X.A.in1) (I.ok.hd hc) i1 a hai its.toArray) (Draws.list (prog := X.prog) (w := X.w) (A := X.A.in1) (I.ok.hd hc) i2 b hbi jts.toArray) q1 q2 q3 ⟨q4, tp⟩ ⟨q5, lp.isList⟩ (by omega) (by omega) (by omega) fun h' tk hk => ⟨rfl, I.turnedL (t' := tk) (ch := [z, TI, TO, i1, i2]) (fun c o hb e => ?_) hf⟩
    simp only [List.mem_cons, List.not_mem_nil, or_false, not_or] at hb
    exact hk c o hb.1 hb.2.2.1 hb.2.2.2.1 hb.2.2.2.2 e
  self := fun A i s Q E st h => wpAny_pyIter_zip st.1 h
theorem walk_zipM {K : PySem.W.Frag} {a b : Addr} {xs ys : List V} {n : Nat} (hn : n = min xs.length ys.length) : Walk (ItzM K a b) n (fun H => SqT K H a xs ∧ SqL K H b ys) (YPair (fun i => xs[i]?) (fun i => ys[i]?)) := by
  refine ⟨fun i H hi ⟨qx, qy⟩ => ⟨xs, ys, xs[i]'(by omega), ys[i]'(by omega), qx, qy, List.getElem?_eq_getElem (by omega), List.getElem?_eq_getElem (by omega)⟩, fun H ⟨qx, qy⟩ => ⟨xs, ys, qx, qy, by omega⟩, fun i H v H' hi ⟨qx, qy⟩ y => ?_⟩
  obtain ⟨T, u, z, e1, e2, e3, e4, e5⟩ := y
  exact ⟨T, u, z, e1, e2, e3, e4 xs qx, e5 ys qy⟩
/-! its making -/
abbrev zmH1 (h : Heap) (a : Addr) : Heap := h.push { cls := .type "tuple_iterator", data := .fields #[.ref a, .int 0 0] }
abbrev zmH2 (h : Heap) (a b : Addr) : Heap := (zmH1 h a).push { cls := .type "list_iterator", data := .fields #[.ref b, .int 0 0] }
abbrev zmH3 (h : Heap) (a b : Addr) : Heap := (zmH2 h a b).push { cls := .type "tuple", data := .seq #[.ref h.objs.size, .ref (zmH1 h a).objs.size] }
abbrev zmH4 (h : Heap) (a b : Addr) : Heap := (zmH3 h a b).push { cls := .type "tuple", data := .seq #[.none, .none] }
abbrev zmH5 (h : Heap) (a b : Addr) : Heap := (zmH4 h a b).push { cls := .type "zip", data := .fields #[.none, .bool false, .bool false, .ref (zmH2 h a b).objs.size, .ref (zmH3 h a b).objs.size] }
theorem meets_zipM (a b : Addr) (xs ys : Array Value) :
    Meets (Builtin.«zip.__new__» ⟨[.type "zip", .ref a, .ref b], []⟩) (fun _ R s => s.heap.IsTuple a xs ∧ s.heap.IsList b ys ∧ R (.ok (.ret (.ref (zmH4 s.heap a b).objs.size))) { s with heap := zmH5 s.heap a b }) :=
  .of_wp fun prog w A R s h => by
    obtain ⟨hp, g, d, tk, os⟩ := s
    obtain ⟨ha, hb, h⟩ := h
    have hsub := sub_zip
    have hA : Heap.IsTuple (Shared.heap ⟨hp, g, d, tk, os⟩) a xs := ha
    have hB : Heap.IsList (Shared.heap ⟨hp.push { cls := .type "tuple_iterator", data := .fields #[.ref a, .int 0 0] }, g, d, tk, os⟩) b ys := Heap.IsList.push hb _
    wp_walk using wpAny_pyIter_tuple hA, wpAny_pyIter_list hB
    exact ⟨_, rfl, h⟩
section
variable {prog : Program} {w : World} {A : Around} {E : Value → Shared → Prop} {s : Shared}
theorem call_zipM {a b : Addr} {xs ys : Array Value} {Q : Value → Shared → Prop} (ha : s.heap.IsTuple a xs) (hb : s.heap.IsList b ys)
    (h : ∀ h', StM (s.heap.objs.size + 4) (s.heap.objs.size + 2) (s.heap.objs.size + 3) s.heap.objs.size (s.heap.objs.size + 1) a b 0 h' → (∀ c o, s.heap.get? c = some o → h'.get? c = some o) → Q (.ref (s.heap.objs.size + 4)) { s with heap := h' }) :
    wpAny (model prog w) A (call (.type "zip") [.ref a, .ref b]) Q E s := by
  refine callType_new F.called_zip (by decide) (F.typeCall_zip_2 _ _) (F.newCall_zip_2 _ _) (fun obj => F.args_object_init_3 obj _ _) F.entry_zip_new (meets_zipM a b xs ys) ⟨ha, hb, ?_⟩
  have n1 : (zmH1 s.heap a).objs.size = s.heap.objs.size + 1 := Heap.size_push _ _
  have n2 : (zmH2 s.heap a b).objs.size = s.heap.objs.size + 2 := (Heap.size_push _ _).trans (by rw [n1])
  have n3 : (zmH3 s.heap a b).objs.size = s.heap.objs.size + 3 := (Heap.size_push _ _).trans (by rw [n2])
  have n4 : (zmH4 s.heap a b).objs.size = s.heap.objs.size + 4 := (Heap.size_push _ _).trans (by rw [n3])
  have k5 : (zmH5 s.heap a b).get? (zmH4 s.heap a b).objs.size = some _ := Heap.get?_push_size _ rfl
  have k4 : (zmH5 s.heap a b).get? (zmH3 s.heap a b).objs.size = some _ := Heap.get?_push_of_some _ (Heap.get?_push_size _ rfl)
  have k3 : (zmH5 s.heap a b).get? (zmH2 s.heap a b).objs.size = some _ := Heap.get?_push_of_some _ (Heap.get?_push_of_some _ (Heap.get?_push_size _ rfl))
  have k2 : (zmH5 s.heap a b).get? (zmH1 s.heap a).objs.size = some _ := Heap.get?_push_of_some _ (Heap.get?_push_of_some _ (Heap.get?_push_of_some _ (Heap.get?_push_size _ rfl)))
  have k1 : (zmH5 s.heap a b).get? s.heap.objs.size = some _ := Heap.get?_push_of_some _ (Heap.get?_push_of_some _ (Heap.get?_push_of_some _ (Heap.get?_push_of_some _ (Heap.get?_push_size _ rfl))))
  show _ ∧ _
  rw [n2, n3, n4] at k5
  rw [n3] at k4
  rw [n1, n2] at k3
  rw [n1] at k2
  rw [n4]
  have kept : ∀ c o, s.heap.get? c = some o → (zmH5 s.heap a b).get? c = some o := fun c o e => by
    iterate 5 refine Heap.get?_push_of_some _ ?_
    exact e
  exact ⟨⟨_, k5, rfl⟩, h _ ⟨k5, k3, ⟨_, _, k4⟩, ⟨_, k1, rfl, rfl⟩, ⟨_, k2, rfl, rfl⟩⟩ kept⟩
end
def iZipM (K : PySem.W.Frag) (ta : TA) : TI := fun σ H R => ta σ H fun vs H1 => ∃ a b xs ys, vs = [.ref a, .ref b] ∧ SqT K H1 a xs ∧ SqL K H1 b ys ∧ R (ItzM K a b) H1
theorem ne5 {n c : Nat} (h : c < n) : c ≠ n ∧ c ≠ n + 1 ∧ c ≠ n + 3 ∧ c ≠ n + 4 := by omega
theorem pi_zipM {X : Cx} {K : PySem.W.Frag} (hK : X.K = K) {e e2 : Expr} {ta : TA} {p pos tpos : Pos} {elts : List Expr} {kk : Nat} (hg : Gl X "zip") (hm : X.mg "zip" = none) (ha : PA X [e, e2] ta) (hs : starEach [e, e2] X.env = (false, eval e X.env) :: starEach [e2] X.env := by rfl)
    (hpl : (backTo pos (starEach [e2] X.env)).any (·.1) = false := by rfl) : PI X (.Tuple elts kk tpos) (.Call (.Name "zip" p) [e, e2] [] pos) (iZipM K ta) := by
  subst hK
  refine ⟨fun pins s σ H R I h => ?_⟩
  refine Call_ (ld_blt I hg hm PyProof.Rows.boot_zip (PyProof.Rows.callWith_type1 (thn (ha.run pos pins s σ H _ I h) fun us s1 ⟨vs, H1, I1, r1, q1⟩ => ?_) hs hpl))
  obtain ⟨a, b, xs, ys, rfl, sx, sy, q⟩ := q1
  cases r1 with
  | cons r2 r3 =>
    cases r3 with
    | cons r4 r5 =>
      cases r5
      cases r2
      cases r4
      obtain ⟨its, rv, tp, _⟩ := I1.tuple sx
      obtain ⟨jts, rw', lp, _⟩ := I1.list sy
      obtain ⟨o1, d1, _⟩ := id tp
      have al := ne5 (Heap.lt_size d1)
      have bl := ne5 lp.lt
      have D := PySem.W.ktu_apart s1.heap.objs.size a b (Heap.lt_size d1) lp.lt
      refine call_zipM (show s1.heap.IsTuple a its.toArray from tp) lp.isList fun h' st hk => wpAny_pyIter_zip st.1 ?_
      have I2 : Inv X pins σ H1 { s1 with heap := h' } := I1.kept (t' := s1.toks) hk
      refine ⟨s1.heap.objs.size + 4, [s1.heap.objs.size + 4, s1.heap.objs.size + 2, s1.heap.objs.size + 3, s1.heap.objs.size, s1.heap.objs.size + 1], _, _, H1, rfl, I2, turn_zipM D (apart_sep D al.2.2.1 bl.2.2.1 bl.1 al.2.1 al.2.2.2 bl.2.2.2) al.1 bl.2.1, st, fun c hc => ?_, q⟩
      have cl : s1.heap.objs.size ≤ c := by
        rcases in5 hc with z | z | z | z | z <;> rw [z] <;> first | exact Nat.le_refl _ | exact Nat.le_add_right _ _
      exact I1.fpOk cl (I1.hok.fresh cl)
end MB

set_option maxHeartbeats 4000000
namespace MB
open PySem PySem.Spec PyProof.Rows L2
/-! ### zip of three tuples -/
def It3 (K : PySem.W.Frag) (a b d : Addr) : It where
  go := fun i H => ∃ xs ys zs x y z, SqT K H a xs ∧ SqT K H b ys ∧ SqT K H d zs ∧ xs[i]? = some x ∧ ys[i]? = some y ∧ zs[i]? = some z
  yld := fun i H v H' => ∃ N x y z, v = .ref N ∧ H N = none ∧ H' = upd H N (.tup [x, y, z]) ∧ (∀ xs, SqT K H a xs → xs[i]? = some x) ∧ (∀ ys, SqT K H b ys → ys[i]? = some y) ∧ (∀ zs, SqT K H d zs → zs[i]? = some z)
  stop := fun i H => ∃ xs ys zs, SqT K H a xs ∧ SqT K H b ys ∧ SqT K H d zs ∧ i = min (min xs.length ys.length) zs.length
def St3z (z TI TO i1 i2 i3 a b d : Addr) (i : Nat) (h : Heap) : Prop := IsZip h z TI TO .none ∧ IsTupOf3 h TI (.ref i1) (.ref i2) (.ref i3) ∧ (∃ x y u, IsTupOf3 h TO x y u) ∧ h.IsTupleIter i1 a i ∧ h.IsTupleIter i2 b i ∧ h.IsTupleIter i3 d i
theorem in6 {c z TI TO i1 i2 i3 : Addr} (h : c ∈ [z, TI, TO, i1, i2, i3]) : c = z ∨ c = TI ∨ c = TO ∨ c = i1 ∨ c = i2 ∨ c = i3 := by simpa using h
theorem turn_zip3 {P : Program} {w : World} {K : PySem.W.Frag} {elts : List Expr} {kk : Nat} {tpos : Pos} {a b d z TI TO i1 i2 i3 : Addr} (S : ZipSep3 z TI TO i1 i2 i3 [i1, a] [i2, b] [i3, d]) (hai : a ≠ i1) (hbi : b ≠ i2) (hdi : d ≠ i3) :
    Turn P w K (.Tuple elts kk tpos) (It3 K a b d) [z, TI, TO, i1, i2, i3] z (St3z z TI TO i1 i2 i3 a b d) where
  mem := List.mem_cons_self ..
  obj := fun i h st c hc => by
    obtain ⟨q1, q2, ⟨x, y, u, q3⟩, ⟨o1, q4, _, q5⟩, ⟨o2, q6, _, q7⟩, ⟨o3, q8, _, q9⟩⟩ := st
    rcases in6 hc with e | e | e | e | e | e <;> subst e
    · exact ⟨_, q1, fun v e => nomatch e⟩
    · exact ⟨_, q2, fun v e => nomatch e⟩
    · exact ⟨_, q3, fun v e => nomatch e⟩
    · exact ⟨o1, q4, fun v e => by rw [q5] at e; cases e⟩
    · exact ⟨o2, q6, fun v e => by rw [q7] at e; cases e⟩
    · exact ⟨o3, q8, fun v e => by rw [q9] at e; cases e⟩
  keep := fun i h h' ⟨q1, q2, ⟨x, y, u, q3⟩, q4, q5, q6⟩ k =>
    ⟨k z (by simp) _ q1, k TI (by simp) _ q2, ⟨x, y, u, k TO (by simp) _ q3⟩, q4.at fun o e => k i1 (by simp) o e, q5.at fun o e => k i2 (by simp) o e, q6.at fun o e => k i3 (by simp) o e⟩
  item := by
    intro X hP hw hK hc i pins s σ H E I hf st hg
    subst hP hw hK
    obtain ⟨q1, q2, ⟨x0, y0, u0, q3⟩, q4, q5, q6⟩ := st
    obtain ⟨xs, ys, zs, x, y, t, sx, sy, sz, gx, gy, gz⟩ := hg
    obtain ⟨its, rv, tp, _⟩ := I.tuple sx
    obtain ⟨jts, rw', lp, _⟩ := I.tuple sy
    obtain ⟨kts, rz, kp, _⟩ := I.tuple sz
    obtain ⟨u, hu, ru⟩ := rv.get gx
    obtain ⟨v, hv, rv'⟩ := rw'.get gy
    obtain ⟨t', ht, rt⟩ := rz.get gz
    have zl : z < s.heap.objs.size := Heap.lt_size q1
    have hi1 : i < its.toArray.size := by
      have := (List.getElem?_eq_some_iff.mp hu).1
      simpa using this
    have hi2 : i < jts.toArray.size := by
      have := (List.getElem?_eq_some_iff.mp hv).1
      simpa using this
    have hi3 : i < kts.toArray.size := by
      have := (List.getElem?_eq_some_iff.mp ht).1
      simpa using this
    refine wpAny_pyNext_zipD3_item S (Draws.tuple (prog := X.prog) (w := X.w) (A := X.A.in1) (I.ok.hd hc) i1 a hai its.toArray) (Draws.tuple (prog := X.prog) (w := X.w) (A := X.A.in1) (I.ok.hd hc) i2 b hbi jts.toArray) (Draws.tuple (prog := X.prog) (w := X.w) (A := X.A.in1) (I.ok.hd hc) i3 d hdi kts.toArray) q1 q2 q3 ⟨q4, tp⟩ ⟨q5, lp⟩ ⟨q6, kp⟩ hi1 hi2 hi3 fun u' v' w' h' tk e1 e2 e3 z' TO' s1' s2' s3' hT hsz hk => ?_
    have eu : u' = u := by
      rw [List.getElem?_toArray, hu] at e1
      exact (Option.some.inj e1).symm
    have ev : v' = v := by
      rw [List.getElem?_toArray, hv] at e2
      exact (Option.some.inj e2).symm
    have ew : w' = t' := by
      rw [List.getElem?_toArray, ht] at e3
      exact (Option.some.inj e3).symm
    subst eu ev ew
    refine ⟨_, rfl, wpAny_letOwnedTupleGo_zip (s := { s with heap := h', toks := tk }) z' fun h'' z'' sb => ?_⟩
    have hT2 := (sb.2 _ (Nat.ne_of_gt zl)).trans hT
    have new : ObjOk X.prog X.w (upd H s.heap.objs.size (.tup [x, y, t])) h'' s.heap.objs.size (.tup [x, y, t]) := ⟨by show 3 ≤ sizeLine; decide, [u', v', w'], .cons ru (.cons rv' (.cons rt .nil)), ⟨_, hT2, rfl, _, rfl⟩⟩
    have hk2 : ∀ c o, c ∉ [z, TI, TO, i1, i2, i3] → s.heap.get? c = some o → h''.get? c = some o := fun c o hb e => by
      simp only [List.mem_cons, List.not_mem_nil, or_false, not_or] at hb
      exact (sb.2 c hb.1).trans (hk c o hb.1 hb.2.2.1 hb.2.2.2.1 hb.2.2.2.2.1 hb.2.2.2.2.2 e)
    have I1 : Inv X pins σ (upd H s.heap.objs.size (.tup [x, y, t])) { s with heap := h'', toks := tk } := I.turnedNew (t' := tk) (ch := [z, TI, TO, i1, i2, i3]) hk2 hf (Nat.le_refl _) new
    refine ⟨.ref s.heap.objs.size, _, I1, rfl, ⟨s.heap.objs.size, x, y, t, rfl, I.hok.fresh (Nat.le_refl _), rfl, fun l hl => ?_, fun l hl => ?_, fun l hl => ?_⟩, ⟨z'', (sb.2 TI S.TIz).trans (hk TI _ S.TIz S.TITO S.TIi1 S.TIi2 S.TIi3 q2), ⟨u', v', w', (sb.2 TO S.TOz).trans TO'⟩, s1'.1.at fun o e => (sb.2 i1 S.zi1.symm).trans e, s2'.1.at fun o e => (sb.2 i2 S.zi2.symm).trans e, s3'.1.at fun o e => (sb.2 i3 S.zi3.symm).trans e⟩, fun c hcm => ?_⟩
    · rw [I.tuple_inj hl sx]; exact gx
    · rw [I.tuple_inj hl sy]; exact gy
    · rw [I.tuple_inj hl sz]; exact gz
    · have cl : c < s.heap.objs.size := by
        obtain ⟨o1, d1, _⟩ := q4
        obtain ⟨o2, d2, _⟩ := q5
        obtain ⟨o3, d3, _⟩ := q6
        rcases in6 hcm with e | e | e | e | e | e <;> rw [e]
        · exact zl
        · exact Heap.lt_size q2
        · exact Heap.lt_size q3
        · exact Heap.lt_size d1
        · exact Heap.lt_size d2
        · exact Heap.lt_size d3
      rw [upd_ne (Nat.ne_of_lt cl)]
      exact (hf c hcm).1
  done := by
    intro X hP hw hK hc i pins s σ H E I hf st hg
    subst hP hw hK
    obtain ⟨q1, q2, ⟨x0, y0, u0, q3⟩, q4, q5, q6⟩ := st
    obtain ⟨xs, ys, zs, sx, sy, sz, gend⟩ := hg
    obtain ⟨its, rv, tp, _⟩ := I.tuple sx
    obtain ⟨jts, rw', lp, _⟩ := I.tuple sy
    obtain ⟨kts, rz, kp, _⟩ := I.tuple sz
    have e1 := rv.length
    have e2 := rw'.length
    have e3 := rz.length
    have hl1 : its.toArray.size = xs.length := by simp [e1]
    have hl2 : jts.toArray.size = ys.length := by simp [e2]
    have hl3 : kts.toArray.size = zs.length := by simp [e3]
    refine wpAny_pyNext_zipD3_end S (Draws.tuple (prog := X.prog) (w := X.w) (A := X.A.in1) (I.ok.hd hc) i1 a hai its.toArray) (Draws.tuple (prog := X.prog) (w := X.w) (A := X.A.in1) (I.ok.hd hc) i2 b hbi jts.toArray) (Draws.tuple (prog := X.prog) (w := X.w) (A := X.A.in1) (I.ok.hd hc) i3 d hdi kts.toArray) q1 q2 q3 ⟨q4, tp⟩ ⟨q5, lp⟩ ⟨q6, kp⟩ (by omega) (by omega) (by omega) (by omega) fun h' tk hk => ⟨rfl, I.turnedL (t' := tk) (ch := [z, TI, TO, i1, i2, i3]) (fun c o hb e => ?_) hf⟩
    simp only [List.mem_cons, List.not_mem_nil, or_false, not_or] at hb
    exact hk c o hb.1 hb.2.2.1 hb.2.2.2.1 hb.2.2.2.2.1 hb.2.2.2.2.2 e
  self := fun A i s Q E st h => wpAny_pyIter_zip st.1 h
/-- what three of them give -/
def YTrip (xs ys zs : Nat → Option V) : Nat → Hp → V → Hp → Prop := fun i H v H' => ∃ T x y z, v = .ref T ∧ H T = none ∧ H' = upd H T (.tup [x, y, z]) ∧ xs i = some x ∧ ys i = some y ∧ zs i = some z
theorem walk_zip3 {K : PySem.W.Frag} {a b d : Addr} {xs ys zs : List V} {n : Nat} (hn : n = min (min xs.length ys.length) zs.length) : Walk (It3 K a b d) n (fun H => SqT K H a xs ∧ SqT K H b ys ∧ SqT K H d zs) (YTrip (fun i => xs[i]?) (fun i => ys[i]?) (fun i => zs[i]?)) := by
  refine ⟨fun i H hi ⟨qx, qy, qz⟩ => ⟨xs, ys, zs, xs[i]'(by omega), ys[i]'(by omega), zs[i]'(by omega), qx, qy, qz, List.getElem?_eq_getElem (by omega), List.getElem?_eq_getElem (by omega), List.getElem?_eq_getElem (by omega)⟩, fun H ⟨qx, qy, qz⟩ => ⟨xs, ys, zs, qx, qy, qz, by omega⟩, fun i H v H' hi ⟨qx, qy, qz⟩ y => ?_⟩
  obtain ⟨T, u, z, t, e1, e2, e3, e4, e5, e6⟩ := y
  exact ⟨T, u, z, t, e1, e2, e3, e4 xs qx, e5 ys qy, e6 zs qz⟩
def iZip3 (K : PySem.W.Frag) (ta : TA) : TI := fun σ H R => ta σ H fun vs H1 => ∃ a b d xs ys zs, vs = [.ref a, .ref b, .ref d] ∧ SqT K H1 a xs ∧ SqT K H1 b ys ∧ SqT K H1 d zs ∧ R (It3 K a b d) H1
theorem pi_zip3 {X : Cx} {K : PySem.W.Frag} (hK : X.K = K) {e e2 e3 : Expr} {ta : TA} {p pos tpos : Pos} {elts : List Expr} {kk : Nat} (hg : Gl X "zip") (hm : X.mg "zip" = none) (ha : PA X [e, e2, e3] ta) (hs : starEach [e, e2, e3] X.env = (false, eval e X.env) :: starEach [e2, e3] X.env := by rfl)
    (hpl : (backTo pos (starEach [e2, e3] X.env)).any (·.1) = false := by rfl) : PI X (.Tuple elts kk tpos) (.Call (.Name "zip" p) [e, e2, e3] [] pos) (iZip3 K ta) := by
  subst hK
  refine ⟨fun pins s σ H R I h => ?_⟩
  refine Call_ (ld_blt I hg hm PyProof.Rows.boot_zip (PyProof.Rows.callWith_type1 (thn (ha.run pos pins s σ H _ I h) fun us s1 ⟨vs, H1, I1, r1, q1⟩ => ?_) hs hpl))
  obtain ⟨a, b, d, xs, ys, zs, rfl, sx, sy, sz, q⟩ := q1
  cases r1 with
  | cons r2 r3 =>
    cases r3 with
    | cons r4 r5 =>
      cases r5 with
      | cons r6 r7 =>
        cases r7
        cases r2
        cases r4
        cases r6
        obtain ⟨its, rv, tp, _⟩ := I1.tuple sx
        obtain ⟨jts, rw', lp, _⟩ := I1.tuple sy
        obtain ⟨kts, rz, kp, _⟩ := I1.tuple sz
        have al : a < s1.heap.objs.size := by obtain ⟨o1, d1, _⟩ := id tp; exact Heap.lt_size d1
        have bl : b < s1.heap.objs.size := by obtain ⟨o1, d1, _⟩ := id lp; exact Heap.lt_size d1
        have dl : d < s1.heap.objs.size := by obtain ⟨o1, d1, _⟩ := id kp; exact Heap.lt_size d1
        have S := zip_sep3 (N := s1.heap.objs.size) (fp1 := [a]) (fp2 := [b]) (fp3 := [d]) (by simpa using al) (by simpa using bl) (by simpa using dl)
        refine zip_begins3 (begins_tuple a its.toArray) (begins_tuple b jts.toArray) (begins_tuple d kts.toArray) tp lp kp fun h' z1 z2 z3 g1 g2 g3 hsz hk => wpAny_pyIter_zip z1 ?_
        have I2 : Inv X pins σ H1 { s1 with heap := h' } := I1.kept (t' := s1.toks) hk
        refine ⟨s1.heap.objs.size + 5, [s1.heap.objs.size + 5, s1.heap.objs.size + 3, s1.heap.objs.size + 4, s1.heap.objs.size, s1.heap.objs.size + 1, s1.heap.objs.size + 2], _, _, H1, rfl, I2, turn_zip3 S (Nat.ne_of_lt al) (Nat.ne_of_lt (Nat.lt_succ_of_lt bl)) (Nat.ne_of_lt (Nat.lt_succ_of_lt (Nat.lt_succ_of_lt dl))), ⟨z1, z2, ⟨_, _, _, z3⟩, ⟨_, g1, rfl, rfl⟩, ⟨_, g2, rfl, rfl⟩, ⟨_, g3, rfl, rfl⟩⟩, fun c hc => ?_, q⟩
        have cl : s1.heap.objs.size ≤ c := by
          rcases in6 hc with z | z | z | z | z | z <;> rw [z] <;> first | exact Nat.le_refl _ | exact Nat.le_add_right _ _
        exact I1.fpOk cl (I1.hok.fresh cl)
end MB

set_option maxHeartbeats 4000000
namespace MB
open PySem PySem.Spec PyProof.Rows L2
/-! ### a tuple from its end: t[::-1] -/
theorem adj_rev (n : Nat) : Builtin.Slice.sliceAdjust none none (-1) (n : Int) = ((n : Int) - 1, -1) := rfl
theorem places_rev (n : Nat) : Builtin.Slice.slicePlaces ((n : Int) - 1) (-1) (-1) = n := by
  unfold Builtin.Slice.slicePlaces
  have h1 : ¬ ((-1 : Int) > 0) := by omega
  simp only [h1, if_false]
  have h2 : -(-1 : Int) = 1 := by decide
  rw [h2, Int.ediv_one]
  split <;> omega
theorem pick_rev (xs : Array Value) : ((List.range xs.size).filterMap fun (k : Nat) => xs[(((xs.size : Int) - 1) + (k : Int) * (-1)).toNat]?).toArray = xs.toList.reverse.toArray := by
  congr 1
  have key : ∀ k, k < xs.size → xs[(((xs.size : Int) - 1) + (k : Int) * (-1)).toNat]? = some (xs.toList.reverse.getD k .none) := fun k hk => by
    have e : (((xs.size : Int) - 1) + (k : Int) * (-1)).toNat = xs.size - 1 - k := by omega
    have hl : k < xs.toList.reverse.length := by simpa using hk
    rw [e, List.getD_eq_getElem?_getD, List.getElem?_eq_getElem hl, Option.getD_some, List.getElem_reverse]
    rw [Array.getElem?_eq_getElem (by omega)]
    simp
  have h2 : (List.range xs.size).filterMap (fun (k : Nat) => xs[(((xs.size : Int) - 1) + (k : Int) * (-1)).toNat]?) = (List.range xs.size).map fun k => xs.toList.reverse.getD k .none := by
    have aux : ∀ (l : List Nat), (∀ k, k ∈ l → k < xs.size) → l.filterMap (fun (k : Nat) => xs[(((xs.size : Int) - 1) + (k : Int) * (-1)).toNat]?) = l.map fun k => xs.toList.reverse.getD k .none := by
      intro l
      induction l with
      | nil => intro _; rfl
      | cons a l ih =>
        intro h
        rw [List.filterMap_cons, key a (h a (List.mem_cons_self ..)), ih fun k hk => h k (List.mem_cons_of_mem _ hk)]
        rfl
    exact aux _ fun k hk => List.mem_range.mp hk
  rw [h2]
  refine List.ext_getElem (by simp) fun k h3 h4 => ?_
  rw [List.getElem_map, List.getElem_range, List.getD_eq_getElem?_getD, List.getElem?_eq_getElem h4, Option.getD_some]
section
variable {prog : Program} {w : World} {A : Around} {E : Value → Shared → Prop} {s : Shared}
theorem applied_rev {sl : Addr} {vl vu vs : Value} {n : Nat} {Q : Int × Int × Nat → Shared → Prop} (hs : s.heap.IsSliceOf sl vl vu vs) (pl : IsPart vl none) (pu : IsPart vu none) (ps : IsPart vs (some (-1)))
    (h : Q ((n : Int) - 1, -1, n) s) : wpAny (model prog w) A (Builtin.Slice.sliceApplied (.ref sl) (pure (n : Int))) Q E s := by
  obtain ⟨os, hos, hcs, hds⟩ := id hs
  unfold Builtin.Slice.sliceApplied Builtin.Slice.sliceFields
  refine wpAny_bind (wpAny_bind (wpAny_field hos hds (x := vl) rfl (wpAny_bind (wpAny_field hos hds (x := vu) rfl (wpAny_bind (wpAny_field hos hds (x := vs) rfl (wpAny_pure ?_)))))))
  refine wpAny_bind (HT.slicePart_ ps ?_)
  show wpAny _ _ (if ((-1 : Int) == 0) = true then _ else _) _ _ s
  rw [if_neg (by decide)]
  refine wpAny_bind (HT.slicePart_ pl (wpAny_bind (HT.slicePart_ pu (wpAny_bind (wpAny_pure ?_)))))
  show wpAny _ _ (match Builtin.Slice.sliceAdjust none none (-1) (n : Int) with | (lo, hi) => pure (lo, (-1 : Int), Builtin.Slice.slicePlaces lo hi (-1))) _ _ s
  rw [adj_rev]
  show wpAny _ _ (pure ((n : Int) - 1, (-1 : Int), Builtin.Slice.slicePlaces ((n : Int) - 1) (-1) (-1))) _ _ s
  rw [places_rev]
  exact wpAny_pure h
theorem getItem_rev {t sl : Addr} {items : Array Value} {vl vu vs : Value} {Q : Value → Shared → Prop} (ht : IsTup s.heap t items) (hs : s.heap.IsSliceOf sl vl vu vs) (pl : IsPart vl none) (pu : IsPart vu none) (ps : IsPart vs (some (-1)))
    (h : Q (.ref s.heap.objs.size) { s with heap := s.heap.push { cls := .type "tuple", data := .seq items.toList.reverse.toArray } }) (hsz : items.size ≤ sizeLine) : wpAny (model prog w) A (getItem (.ref t) (.ref sl)) Q E s := by
  have hok : sizeOk (.seq items.toList.reverse.toArray) := by
    show items.toList.reverse.toArray.size ≤ sizeLine
    simpa using hsz
  obtain ⟨os, hos, hcs, hds⟩ := id hs
  have hTs : s.TypeIs (.ref sl) "slice" := ⟨os, hos, hcs⟩
  unfold getItem
  (try with_reducible refine wpAny_holding ?_)
  (first | refine wpAny_bind (wpAny_pure ?_) | skip)
  refine wpAny_bind (wpAny_sequenceKey ht.typeIs (by decide) (wpAny_bind (wpAny_callSpecial?_slot (name := Str.ofString "__getitem__") ht.typeIs PyProof.Rows.slot_tuple_getitem (wpAny_call_entry PyProof.Rows.slot_tuple_getitem ht.typeIs entry_tuple_getitem ?_ (args_tuple_getitem _ _)))))
  show wpAny _ _ (Builtin.Tuple.tupleItemsOf (.ref t) >>= _) _ _ s
  refine wpAny_bind (tupleItemsOf_ ht (wpAny_bind (wpAny_typeOf hTs ?_)))
  rw [if_pos (by decide)]
  refine wpAny_bind (applied_rev hs pl pu ps ?_)
  show wpAny _ _ (if (((items.size : Int) - 1) == 0 && (-1 : Int) == 1 && items.size == items.size) = true then _ else _) _ _ s
  rw [if_neg (by simp), pick_rev]
  exact wpAny_bind (m := Builtin.Tuple.tupleExact _) (wpAny_newObj_type (wpAny_pure ⟨_, rfl, wpAny_pure h⟩) hok)
end
def tRevT (K : PySem.W.Frag) (te : TE) : TE := fun σ H Q => te σ H fun x H1 => ∃ a xs, x = .ref a ∧ SqT K H1 a xs ∧ ∀ p, H1 p = none → Q (.ref p) (upd H1 p (.tup xs.reverse))
theorem pe_revT {X : Cx} {K : PySem.W.Frag} (hK : X.K = K) {e : Expr} {te : TE} {k : Nat} {p1 p2 p3 pos : PySem.Pos} (he : PE X e te) : PE X (.Subscript e (.Slice none none (some (.UnaryOp .USub (.Constant (.int 1) k p1) p2)) p3) pos) (tRevT K te) := by
  subst hK
  refine ⟨fun pins s σ H Q I h => ?_⟩
  refine Subscript_ (thn (he.run pins s σ H _ I h) fun v s1 ⟨x, H1, I1, r1, q1⟩ => ?_)
  obtain ⟨a, xs, rfl, hx, q⟩ := q1
  cases r1
  have hst : PO X (some (.UnaryOp .USub (.Constant (.int 1) k p1) p2)) (tPart (tUn (rU fun i => .int (-i)) (tC (.int 1)))) := po_some (pe_un un_neg pe_int)
  refine wpAny_Slice (thn (po_none.run pins s1 σ H1 (fun o H2 => o = none ∧ H2 = H1) I1 ⟨rfl, rfl⟩) fun vl s2 ⟨lo, H2, I2, pl, elo, eH⟩ => ?_)
  cases elo; cases eH
  refine thn (po_none.run pins s2 σ H1 (fun o H3 => o = none ∧ H3 = H1) I2 ⟨rfl, rfl⟩) fun vu s3 ⟨hi, H3, I3, pu, ehi, eH⟩ => ?_
  cases ehi; cases eH
  refine thn (hst.run pins s3 σ H1 (fun o H4 => o = some (-1) ∧ H4 = H1) I3 ⟨1, rfl, -1, rfl, rfl, rfl⟩) fun vs s4 ⟨st, H4, I4, ps, est, eH⟩ => ?_
  cases est; cases eH
  have I5 : Inv X pins σ H1 { s4 with heap := s4.heap.push { cls := .type "slice", data := .fields #[vl, vu, vs] } } := I4.kept (t' := s4.toks) fun b ob e => Heap.get?_push_of_some _ e
  obtain ⟨its, r, ht, hz⟩ := I5.tuple hx
  have hlen := r.length
  show wpAny (model X.prog X.w) X.A (subscriptTail e (.Slice none none (some (.UnaryOp .USub (.Constant (.int 1) k p1) p2)) p3) (.ref a) (.ref s4.heap.objs.size)) (EP X pins σ Q) X.xe { s4 with heap := s4.heap.push { cls := .type "slice", data := .fields #[vl, vu, vs] } }
  refine tail_any (ops := [.ref a, .ref s4.heap.objs.size]) ht.typeIs (PyProof.Rows.slot_tuple_getitem.lookup) ?_ (by with_unfolding_all rfl)
  refine getItem_rev ht (Heap.IsSliceOf.new _ vl vu vs) pl pu ps ?_ (by rw [List.size_toArray]; omega)
  refine ⟨.ref _, _, I5.laid (t' := s4.toks) (o := .tup xs.reverse) (fun b ob e => Heap.get?_push_of_some _ e) (Nat.le_refl _) ?_, rfl, q _ (I5.hok.fresh (Nat.le_refl _))⟩
  exact ⟨by rw [List.length_reverse]; exact hz, its.reverse, r.reverse, IsTup.new _ _⟩
end MB

set_option maxHeartbeats 4000000
namespace MB
open PySem PySem.Spec PyProof.Rows L2
/-! ### a tuple times a number from 1 on -/
theorem tuple_mul1 (l : Addr) (items : Array Value) (n : Nat) (dd : Option Addr) (sl : Array (Option Value)) (u : Tok) :
    Meets (Builtin.«tuple.__mul__» ⟨[.ref l, .int 1 u], []⟩) (fun _ R s => s.heap.get? l = some { cls := .type "tuple", dict := dd, data := .seq items n, slots := sl } ∧ R (.ok (.ret (Value.ref l))) s) :=
  .of_wp fun prog w A R s h => by
    obtain ⟨hp, g, d, tk, os⟩ := s
    obtain ⟨hl, h⟩ := h
    have f1 := AutoSeq1.idx_int
    have c1 : (items.isEmpty || ((1 : Int) == 1)) = true := by simp
    wp_walk using wpAny_loadPart' hl
    exact ⟨_, rfl, h⟩
def rRepQ (K : PySem.W.Frag) : R2 := fun x y H Q => ∃ l k xs, x = .ref l ∧ y = .int k ∧ SqT K H l xs ∧ xs ≠ [] ∧ 1 ≤ k ∧ k ≤ 1000 ∧ xs.length ≤ 1000 ∧ (k = 1 → Q (.ref l) H) ∧ ∀ p, H p = none → Q (.ref p) (upd H p (.tup (List.replicate k.toNat xs).flatten))
theorem op_repQ {X : Cx} : OpR X (binaryOp .Mult) (rRepQ X.K) := by
  intro pins s σ H x y v u Q I rx ry h
  obtain ⟨l, k, xs, rfl, rfl, hT, hne, g1, g2, hz, q1, q⟩ := h
  by_cases hk : k = 1
  · subst hk
    cases rx
    obtain ⟨t, rfl⟩ := ry
    obtain ⟨its, r, ⟨⟨cls, dd, data, sl⟩, ho, hc, n, hd⟩, hs⟩ := I.tuple hT
    simp only at hc hd
    subst hc hd
    refine wpAny_binaryOp_repeat_ref (T := "tuple") (U := "int") (by decide) ⟨_, ho, rfl⟩ (fun s' => typeIs_int s' 1 t) noFill_tuple_mul F.fills_int_mul F.slot_int_rmul repeat_tuple F.slot_int_index.lookup (call_meets F.slot_int_rmul (typeIs_int s 1 t) F.entry_int_rmul (F.args_int_rmul_2 _ _) (int_rmul_tuple 1 t l its.toArray n dd sl) ⟨ho, rfl, ⟨_, ho, rfl⟩, ?_⟩)
    exact call_meets F.slot_tuple_mul ⟨_, ho, rfl⟩ F.entry_tuple_mul (F.args_tuple_mul_2 _ _) (tuple_mul1 l its.toArray n dd sl t) ⟨ho, .ref l, H, I, rfl, q1 rfl⟩
  · exact op_repT pins s σ H _ _ v u Q I rx ry ⟨l, k, xs, rfl, rfl, hT, hne, by omega, g2, hz, q⟩
theorem rep_read {K : PySem.W.Frag} {H : Hp} {l : Addr} {k : Int} {xs : List V} {Q : VK} (h : SqT K H l xs) (hn : xs ≠ []) (h1 : 1 ≤ k) (h2 : k ≤ 1000) (hz : xs.length ≤ 1000) (q : ∀ p H', Same H H' → SqT K H' p (List.replicate k.toNat xs).flatten → Q (.ref p) H') : rRepQ K (.ref l) (.int k) H Q := by
  refine ⟨l, k, xs, rfl, rfl, h, hn, h1, h2, hz, fun e => q l H (Same.refl H) ?_, fun p np => q p _ (same_upd np) (.inl (.inl upd_same))⟩
  rw [e]
  simpa using h
end MB

set_option maxHeartbeats 4000000
namespace MB
open PySem PySem.Spec PyProof.Rows L2
/-! ### a tuple times a number from 0 on -/
theorem tuple_mul0 (l : Addr) (items : Array Value) (n : Nat) (dd : Option Addr) (sl : Array (Option Value)) (u : Tok) (hi : items.isEmpty = false) :
    Meets (Builtin.«tuple.__mul__» ⟨[.ref l, .int 0 u], []⟩) (fun _ R s => s.heap.get? l = some { cls := .type "tuple", dict := dd, data := .seq items n, slots := sl } ∧
      R (.ok (.ret (Value.ref s.heap.objs.size))) { s with heap := s.heap.push { cls := Value.type "tuple", data := Data.seq #[] } }) :=
  .of_wp fun prog w A R s h => by
    obtain ⟨hp, g, d, tk, os⟩ := s
    obtain ⟨hl, h⟩ := h
    have f1 := AutoSeq1.idx_int
    have c1 : (items.isEmpty || ((0 : Int) == 1)) = false := by rw [hi]; rfl
    have c2 : (decide ((0 : Int) ≤ 0) || items.isEmpty) = true := by simp
    wp_walk using wpAny_loadPart' hl
    repeat (first
      | (refine wpAny_ite_false (decide_eq_false (by rw [c1]; exact Bool.false_ne_true)) ?_; wp_walk using wpAny_loadPart' hl)
      | (refine wpAny_ite_true (decide_eq_true c2) ?_; wp_walk using wpAny_loadPart' hl))
    exact ⟨_, rfl, h⟩
def rRepZ (K : PySem.W.Frag) : R2 := fun x y H Q => ∃ l k xs, x = .ref l ∧ y = .int k ∧ SqT K H l xs ∧ xs ≠ [] ∧ 0 ≤ k ∧ k ≤ 1000 ∧ xs.length ≤ 1000 ∧ (k = 1 → Q (.ref l) H) ∧ ∀ p, H p = none → Q (.ref p) (upd H p (.tup (List.replicate k.toNat xs).flatten))
theorem op_repZ {X : Cx} : OpR X (binaryOp .Mult) (rRepZ X.K) := by
  intro pins s σ H x y v u Q I rx ry h
  obtain ⟨l, k, xs, rfl, rfl, hT, hne, g1, g2, hz, q1, q⟩ := h
  by_cases hk : k = 0
  · subst hk
    cases rx
    obtain ⟨t, rfl⟩ := ry
    obtain ⟨its, r, ⟨⟨cls, dd, data, sl⟩, ho, hc, n, hd⟩, hs⟩ := I.tuple hT
    simp only at hc hd
    subst hc hd
    have hle : its.length = xs.length := r.length.symm
    have hi : its.toArray.isEmpty = false := by
      cases its with
      | nil => exact absurd (List.eq_nil_of_length_eq_zero hle.symm) hne
      | cons a b => rfl
    refine wpAny_binaryOp_repeat_ref (T := "tuple") (U := "int") (by decide) ⟨_, ho, rfl⟩ (fun s' => typeIs_int s' 0 t) noFill_tuple_mul F.fills_int_mul F.slot_int_rmul repeat_tuple F.slot_int_index.lookup (call_meets F.slot_int_rmul (typeIs_int s 0 t) F.entry_int_rmul (F.args_int_rmul_2 _ _) (int_rmul_tuple 0 t l its.toArray n dd sl) ⟨ho, rfl, ⟨_, ho, rfl⟩, ?_⟩)
    refine call_meets F.slot_tuple_mul ⟨_, ho, rfl⟩ F.entry_tuple_mul (F.args_tuple_mul_2 _ _) (tuple_mul0 l its.toArray n dd sl t hi) ⟨ho, ?_⟩
    refine ⟨.ref s.heap.objs.size, _, I.laid (t' := s.toks) (o := .tup []) (fun b ob q => Heap.get?_push_of_some _ q) (Nat.le_refl _) ?_, rfl, q _ (I.hok.fresh (Nat.le_refl _))⟩
    exact ⟨Nat.zero_le _, [], .nil, IsTup.new _ _⟩
  · exact op_repQ pins s σ H _ _ v u Q I rx ry ⟨l, k, xs, rfl, rfl, hT, hne, by omega, g2, hz, q1, q⟩
theorem k_repZ {X : Cx} {K : PySem.W.Frag} (hK : X.K = K) : OpR X (binaryOp .Mult) (rRepZ K) := by subst hK; exact op_repZ
theorem repZ_read {K : PySem.W.Frag} {H : Hp} {l : Addr} {k : Nat} {xs : List V} {Q : VK} (h : SqT K H l xs) (hn : xs ≠ []) (h2 : k ≤ 1000) (hz : xs.length ≤ 1000) (q : ∀ p H', Same H H' → SqT K H' p (List.replicate k xs).flatten → Q (.ref p) H') : rRepZ K (.ref l) (.int (k : Int)) H Q := by
  refine ⟨l, (k : Int), xs, rfl, rfl, h, hn, by omega, by omega, hz, fun e => q l H (Same.refl H) ?_, fun p np => q p _ (same_upd np) (by rw [Int.toNat_natCast]; exact .inl (.inl upd_same))⟩
  have : k = 1 := by omega
  rw [this]
  simpa using h
end MB

set_option maxHeartbeats 4000000
namespace MB
open PySem PySem.Spec PyProof.Rows L2
/-! ### dicts whose keys are tuples of ints, by the data of the keys -/
abbrev KX := List (List Int × Addr × V)
def RX : KX → List (List Int × Addr × Value) → Prop := Paired fun p q => p.1 = q.1 ∧ p.2.1 = q.2.1 ∧ RelV p.2.2 q.2.2
def kvX (L : KX) : List (List Int × V) := L.map fun x => (x.1, x.2.2)
def putX (L : KX) (k : List Int) (b : Addr) (v : V) : KX :=
  if ((kvX L).any fun kv => decide (kv.1 = k)) = true then L.map (fun x => if x.1 = k then (x.1, x.2.1, v) else x) else L ++ [(k, b, v)]
theorem kvX_put (L : KX) (k : List Int) (b : Addr) (v : V) : kvX (putX L k b v) = putK (kvX L) k v := by
  unfold putX putK
  split
  · unfold kvX
    rw [List.map_map, List.map_map]
    refine List.map_congr_left fun x _ => ?_
    by_cases h : x.1 = k <;> simp [h]
  · simp [kvX]
theorem putX_key {L : KX} {k : List Int} {b : Addr} {v : V} {x : List Int × Addr × V} (h : x ∈ putX L k b v) : (∃ y ∈ L, x.1 = y.1 ∧ x.2.1 = y.2.1) ∨ (x.1 = k ∧ x.2.1 = b) := by
  unfold putX at h
  split at h
  · obtain ⟨y, hy, rfl⟩ := List.mem_map.mp h
    refine .inl ⟨y, hy, ?_⟩
    split <;> exact ⟨rfl, rfl⟩
  · rcases List.mem_append.mp h with h | h
    · exact .inl ⟨x, h, rfl, rfl⟩
    · simp only [List.mem_singleton] at h
      subst h
      exact .inr ⟨rfl, rfl⟩
theorem RX.val {L : KX} {xs : List (List Int × Addr × Value)} (r : RX L xs) (k : List Int) : RelO (valV (kvX L) k) ((atKey xs k).map (·.2)) := by
  unfold RX at r
  induction r with
  | nil => exact True.intro
  | @cons p q ps qs h t ih =>
    obtain ⟨h1, _, h2⟩ := h
    show RelO (valV ((p.1, p.2.2) :: kvX ps) k) _
    by_cases e : p.1 = k
    · have e' : q.1 = k := h1.symm.trans e
      have b : atKey (q :: qs) k = some q.2 := by simp [atKey, List.find?_cons, e']
      rw [valV_pos (p := (p.1, p.2.2)) e, b]; exact h2
    · have e' : ¬ q.1 = k := fun z => e (h1.trans z)
      have b : atKey (q :: qs) k = atKey qs k := by simp [atKey, List.find?_cons, e']
      rw [valV_neg (p := (p.1, p.2.2)) e, b]; exact ih
theorem RX.repl {L : KX} {xs : List (List Int × Addr × Value)} (r : RX L xs) (k : List Int) {y : V} {u : Value} (ry : RelV y u) :
    RX (L.map fun x => if x.1 = k then (x.1, x.2.1, y) else x) (xs.map (putAt k u)) := by
  unfold RX at r ⊢
  induction r with
  | nil => exact .nil
  | @cons p q ps qs h t ih =>
    rw [List.map_cons, List.map_cons]
    refine .cons ?_ ih
    obtain ⟨h1, h2, h3⟩ := h
    unfold putAt
    by_cases e : p.1 = k
    · rw [if_pos e, if_pos (h1.symm.trans e)]; exact ⟨h1, h2, ry⟩
    · rw [if_neg e, if_neg (fun z => e (h1.trans z))]; exact ⟨h1, h2, h3⟩
theorem RX.put {L : KX} {xs : List (List Int × Addr × Value)} (r : RX L xs) (k : List Int) {b : Addr} {y : V} {u : Value} (ry : RelV y u) : RX (putX L k b y) (storedH xs k b u) := by
  have e : ((kvX L).any fun kv => decide (kv.1 = k)) = (atKey xs k).isSome := by
    rw [valV_any, (r.val k).isSome_eq, Option.isSome_map]
  unfold putX storedH
  rw [e]
  by_cases q : (atKey xs k).isSome = true
  · rw [if_pos q, if_pos q]; exact r.repl k ry
  · rw [if_neg q, if_neg q]; exact Paired.snoc r ⟨rfl, rfl, ry⟩
theorem RX.len {L : KX} {xs : List (List Int × Addr × Value)} (r : RX L xs) : L.length = xs.length := Paired.length r
theorem kvX_len (L : KX) : (kvX L).length = L.length := by simp [kvX]
def DX0 (P : Program) (w : World) (h : Heap) (d : Addr) (L : KX) : Prop := L.length ≤ sizeLine ∧ (d == sysModules) = false ∧ ∃ xs, RX L xs ∧
  ∃ o es ep, h.get? d = some o ∧ o.ExactDict ∧ o.data = .dict es ep ∧ es.toList = xs.map (entryOfKey (tupleKind (intKind P w))) ∧ (xs.map (·.1)).Nodup
def DXO (P : Program) (w : World) (d : Addr) (L : KX) : HO := .ext fun h => DX0 P w h d L
theorem dx_new {P : Program} {w : World} {H : Hp} {h : Heap} {d : Addr} {L : KX} (R : DX0 P w h d L) : ObjOk P w H h d (DXO P w d L) := by
  have ⟨z, y, xs, r, o, es, ep, ho, q⟩ := R
  refine ⟨R, ⟨o, ho⟩, fun h1 h2 p k => ?_⟩
  have ⟨z', y', xs', r', o', es', ep', ho', q'⟩ := p
  exact ⟨z', y', xs', r', o', es', ep', k o' ho', q'⟩
/-- at d stands a dict with the keys and values kvs -/
def DN (K : PySem.W.Frag) (P : Program) (w : World) (H : Hp) (d : Addr) (kvs : List (List Int × V)) : Prop :=
  ∃ L : KX, H d = some (DXO P w d L) ∧ (∀ x ∈ L, SqT K H x.2.1 (x.1.map V.int)) ∧ kvX L = kvs
theorem DN.same {K : PySem.W.Frag} {P : Program} {w : World} {H H' : Hp} {d : Addr} {kvs : List (List Int × V)} (g : DN K P w H d kvs) (s : Same H H') : DN K P w H' d kvs := by
  obtain ⟨L, h1, h2, h3⟩ := g
  exact ⟨L, s _ _ h1, fun x hx => Same.tup s (h2 x hx), h3⟩
theorem DN.keep {K : PySem.W.Frag} {P : Program} {w : World} {H H' : Hp} {d : Addr} {kvs : List (List Int × V)} (g : DN K P w H d kvs) (s : Keep K H H') (e : ∀ o, H d = some o → H' d = some o) : DN K P w H' d kvs := by
  obtain ⟨L, h1, h2, h3⟩ := g
  exact ⟨L, e _ h1, fun x hx => s _ _ (h2 x hx), h3⟩
/-- what is not at d stays, tuples stay -/
theorem keep_updX {K : PySem.W.Frag} {P : Program} {w : World} {H : Hp} {d : Addr} {L L' : KX} (h : H d = some (DXO P w d L)) : Keep K H (upd H d (DXO P w d L')) := fun a xs hs => by
  rcases hs with (hs | ⟨o, hs⟩) | hs
  · exact .inl (.inl (by rw [upd_ne (fun e => by rw [e, h] at hs; cases hs)]; exact hs))
  · exact .inl (.inr ⟨o, by rw [upd_ne (fun e => by rw [e, h] at hs; cases hs)]; exact hs⟩)
  · exact .inr hs
section
variable {X : Cx} {pins : List (Addr × Obj)} {σ : L2.St} {H : Hp} {s : Shared} {d a b : Addr} {kvs : List (List Int × V)} {k : List Int} {A : Around} {E : Value → Shared → Prop}
theorem DN.at (I : Inv X pins σ H s) (g : DN X.K X.prog X.w H d kvs) : (d == sysModules) = false ∧ ∃ (L : KX) (xs : List (List Int × Addr × Value)), H d = some (DXO X.prog X.w d L) ∧ (∀ x ∈ L, SqT X.K H x.2.1 (x.1.map V.int)) ∧ kvX L = kvs ∧ RX L xs ∧ L.length ≤ sizeLine ∧ s.heap.DictOfH (tupleKind (intKind X.prog X.w)) d xs := by
  obtain ⟨L, h1, h2, h3⟩ := g
  obtain ⟨⟨z, y, xs, r, o, es, ep, ho, hc, hd, he, hn⟩, _⟩ := (show ObjOk X.prog X.w H s.heap d (DXO X.prog X.w d L) from I.hok d _ h1)
  refine ⟨y, L, xs, h1, h2, h3, r, z, o, es, ep, ho, hc, hd, he, ?_, hn⟩
  have all : ∀ {l : KX} {m : List (List Int × Addr × Value)}, RX l m → (∀ x ∈ l, SqT X.K H x.2.1 (x.1.map V.int)) → ∀ x ∈ m, (tupleKind (intKind X.prog X.w)).is s.heap x.1 x.2.1 := by
    intro l m q
    unfold RX at q
    induction q with
    | nil => intro _ x hx; exact nomatch hx
    | @cons p q ps qs hq t ih =>
      intro hl x hx
      rcases List.mem_cons.mp hx with e | hx
      · subst e
        have := I.isT (hl p (List.mem_cons_self ..))
        rw [hq.1, hq.2.1] at this
        exact this
      · exact ih (fun x hx => hl x (List.mem_cons_of_mem _ hx)) x hx
  exact all r h2
theorem DN.typeIs (I : Inv X pins σ H s) (g : DN X.K X.prog X.w H d kvs) : s.TypeIs (.ref d) "dict" := by
  obtain ⟨_, _, _, _, _, _, _, _, dd⟩ := g.at I
  exact dd.typeIs
theorem DN.noDict (I : Inv X pins σ H s) (g : DN X.K X.prog X.w H d kvs) : ∀ b, Value.ref d = .ref b → ∃ ob, s.heap.get? b = some ob ∧ ob.dict = none := fun b q => by
  cases q
  obtain ⟨_, _, _, _, _, _, _, _, ob, _, _, h1, h2, _⟩ := g.at I
  exact ⟨ob, h1, h2.2.1⟩
theorem n_getItem {v : V} {Q : Value → Shared → Prop} (hu : A.units + 1 < cLine) (I : Inv X pins σ H s) (g : DN X.K X.prog X.w H d kvs) (hk : SqT X.K H b (k.map V.int)) (hv : valV kvs k = some v) (h : ∀ w' s', Inv X pins σ H s' → RelV v w' → Q w' s') :
    wpAny (model X.prog X.w) A (getItem (.ref d) (.ref b)) Q E s := by
  obtain ⟨hd, L, xs, _, _, e, r, _, dd⟩ := g.at I
  obtain ⟨w', hw, rw'⟩ := RelO.some_of (v := v) (o := (atKey xs k).map (·.2)) (by rw [← hv, ← e]; exact r.val k)
  obtain ⟨p, hp, hp2⟩ := Option.map_eq_some_iff.mp hw
  refine wpAny_getItem_heap (tupleKind_room_in1 hu) (I.isT hk) dd hp ?_
  rw [hp2]
  exact h w' _ (I.tok _) rw'
theorem n_in {Q : Value → Shared → Prop} (hu : A.units + 1 < cLine) (I : Inv X pins σ H s) (g : DN X.K X.prog X.w H d kvs) (hk : SqT X.K H b (k.map V.int)) (h : ∀ s', Inv X pins σ H s' → Q (.bool (valV kvs k).isSome) s') :
    wpAny (model X.prog X.w) A (compareOp .In (.ref b) (.ref d)) Q E s := by
  obtain ⟨hd, L, xs, _, _, e, r, _, dd⟩ := g.at I
  refine wpAny_in_heap (tupleKind_room_in1 hu) (I.isT hk) hd dd ?_
  have q := (r.val k).isSome_eq
  rw [Option.isSome_map, e] at q
  rw [← q]
  exact h _ (I.tok _)
theorem n_notIn {Q : Value → Shared → Prop} (hu : A.units + 1 < cLine) (I : Inv X pins σ H s) (g : DN X.K X.prog X.w H d kvs) (hk : SqT X.K H b (k.map V.int)) (h : ∀ s', Inv X pins σ H s' → Q (.bool (!(valV kvs k).isSome)) s') :
    wpAny (model X.prog X.w) A (compareOp .NotIn (.ref b) (.ref d)) Q E s := by
  obtain ⟨hd, L, xs, _, _, e, r, _, dd⟩ := g.at I
  refine wpAny_notIn_heap (tupleKind_room_in1 hu) (I.isT hk) hd dd ?_
  have q := (r.val k).isSome_eq
  rw [Option.isSome_map, e] at q
  rw [← q]
  exact h _ (I.tok _)
theorem n_get1 {Q : Value → Shared → Prop} (hu : A.units + 1 < cLine) (I : Inv X pins σ H s) (g : DN X.K X.prog X.w H d kvs) (hk : SqT X.K H b (k.map V.int)) (h : ∀ w' s', Inv X pins σ H s' → RelV ((valV kvs k).getD .non) w' → Q w' s') :
    wpAny (model X.prog X.w) A (call (.builtin "dict.get") [.ref d, .ref b]) Q E s := by
  obtain ⟨hd, L, xs, _, _, e, r, _, dd⟩ := g.at I
  refine call_meetsIn PySem.F.slot_dict_get dd.typeIs PySem.F.entry_dict_get (PySem.F.args_dict_get_2 _ _) (meetsH_dict_get (tupleKind (intKind X.prog X.w)) d b hd) ⟨tupleKind_room_in1 hu, k, xs, I.isT hk, dd, h _ _ (I.tok _) ?_⟩
  rw [← e]
  exact (r.val k).getD rfl
theorem n_get2 {z : V} {u : Value} {Q : Value → Shared → Prop} (hu : A.units + 1 < cLine) (I : Inv X pins σ H s) (g : DN X.K X.prog X.w H d kvs) (hk : SqT X.K H b (k.map V.int)) (rz : RelV z u) (h : ∀ w' s', Inv X pins σ H s' → RelV ((valV kvs k).getD z) w' → Q w' s') :
    wpAny (model X.prog X.w) A (call (.builtin "dict.get") [.ref d, .ref b, u]) Q E s := by
  obtain ⟨hd, L, xs, _, _, e, r, _, dd⟩ := g.at I
  refine call_meetsIn PySem.F.slot_dict_get dd.typeIs PySem.F.entry_dict_get (PySem.F.args_dict_get_3 _ _ _) (meetsH_dict_get_default (tupleKind (intKind X.prog X.w)) d b hd u) ⟨tupleKind_room_in1 hu, k, xs, I.isT hk, dd, h _ _ (I.tok _) ?_⟩
  rw [← e]
  exact (r.val k).getD rz
/-- the heaps behind d[k] = v -/
def DNput (K : PySem.W.Frag) (P : Program) (w : World) (H : Hp) (d : Addr) (kvs : List (List Int × V)) (k : List Int) (v : V) (R : Hp → Prop) : Prop :=
  ∀ H', (∀ c, c ≠ d → H' c = H c) → Keep K H H' → DN K P w H' d (putK kvs k v) → R H'
theorem n_setItem {v : V} {u : Value} {Q : Unit → Shared → Prop} (hu : A.units + 1 < cLine) (I : Inv X pins σ H s) (g : DN X.K X.prog X.w H d kvs) (hk : SqT X.K H b (k.map V.int)) (hl : kvs.length < sizeLine) (rv : RelV v u) (h : DNput X.K X.prog X.w H d kvs k v fun H' => ∀ s', Inv X pins σ H' s' → Q () s') :
    wpAny (model X.prog X.w) A (setItem (.ref d) (.ref b) u) Q E s := by
  obtain ⟨hd, L, xs, hL, hS, e, r, z, dd⟩ := g.at I
  have hz : xs.length ≤ sizeLine := by rw [← r.len]; exact z
  have hl2 : (putX L k b v).length ≤ sizeLine := by
    have := length_putK kvs k v
    rw [← kvX_len, kvX_put, e]
    omega
  have kp := keep_updX (K := X.K) (L' := putX L k b v) hL
  refine wpAny_setItem_heap (hsz := hz) (tupleKind_room_in1 hu) (I.isT hk) dd fun h' dd' hs => ?_
  obtain ⟨q, es, ep, hq, h2, h3, h4, _, h5⟩ := dd'
  refine h _ (fun c hc => upd_ne hc) kp ⟨putX L k b v, upd_same, fun x hx => ?_, by rw [kvX_put, e]⟩ _ (d_write I (by rw [hL]; exact True.intro) hs ⟨q, hq⟩ (dx_new ⟨hl2, hd, _, r.put k rv, q, es, ep, hq, h2, h3, h4, h5⟩))
  rcases putX_key hx with ⟨y, hy, e1, e2⟩ | ⟨e1, e2⟩
  · rw [e1, e2]; exact kp _ _ (hS y hy)
  · rw [e1, e2]; exact kp _ _ hk
end
/-! ### readings -/
def tNGet (K : PySem.W.Frag) (P : Program) (w : World) (td ty : TE) : TE := fun σ H Q => td σ H fun x H1 => ty σ H1 fun y H2 => ∃ a b kvs k v, x = .ref a ∧ y = .ref b ∧ DN K P w H2 a kvs ∧ SqT K H2 b (k.map V.int) ∧ valV kvs k = some v ∧ Q v H2
def tNIn (K : PySem.W.Frag) (P : Program) (w : World) (ty td : TE) : TE := fun σ H Q => ty σ H fun y H1 => td σ H1 fun x H2 => ∃ a b kvs k, x = .ref a ∧ y = .ref b ∧ DN K P w H2 a kvs ∧ SqT K H2 b (k.map V.int) ∧ Q (.bl (valV kvs k).isSome) H2
def tNNotIn (K : PySem.W.Frag) (P : Program) (w : World) (ty td : TE) : TE := fun σ H Q => ty σ H fun y H1 => td σ H1 fun x H2 => ∃ a b kvs k, x = .ref a ∧ y = .ref b ∧ DN K P w H2 a kvs ∧ SqT K H2 b (k.map V.int) ∧ Q (.bl (!(valV kvs k).isSome)) H2
def sNPut (K : PySem.W.Frag) (P : Program) (w : World) (td ty tv : TE) : TS := fun D σ H => tv σ H fun v H1 => td σ H1 fun x H2 => ty σ H2 fun y H3 => ∃ a b kvs k, x = .ref a ∧ y = .ref b ∧ DN K P w H3 a kvs ∧ SqT K H3 b (k.map V.int) ∧ kvs.length < sizeLine ∧ DNput K P w H3 a kvs k v fun H' => D.nx σ H'
def tNGet1 (K : PySem.W.Frag) (P : Program) (w : World) (td ty : TE) : TE := fun σ H Q => td σ H fun x H1 => ∃ a kvs, x = .ref a ∧ DN K P w H1 a kvs ∧ ty σ H1 fun y H2 => ∃ b k, y = .ref b ∧ DN K P w H2 a kvs ∧ SqT K H2 b (k.map V.int) ∧ Q ((valV kvs k).getD .non) H2
def tNGet2 (K : PySem.W.Frag) (P : Program) (w : World) (td ty tx : TE) : TE := fun σ H Q => td σ H fun x H1 => ∃ a kvs, x = .ref a ∧ DN K P w H1 a kvs ∧ ty σ H1 fun y H2 => tx σ H2 fun z H3 => ∃ b k, y = .ref b ∧ DN K P w H3 a kvs ∧ SqT K H3 b (k.map V.int) ∧ Q ((valV kvs k).getD z) H3
section
variable {X : Cx} {K : PySem.W.Frag} {P : Program} {w : World} {o i e f value : Expr} {pos pos' tpos apos cpos : Pos} {td ty tv tx : TE}
theorem pe_nget (hK : X.K = K) (hP : X.prog = P) (hw : X.w = w) (hu : X.A.units + 1 < cLine) (ho : PE X o td) (hi : PE X i ty) (hs : NoSl i) : PE X (.Subscript o i pos) (tNGet K P w td ty) := by
  subst hK hP hw
  refine ⟨fun pins s σ H Q I h => ?_⟩
  refine subD_of PySem.F.slot_dict_getitem.lookup hs (thn (ho.run pins s σ H _ I h) fun u s1 ⟨x, H1, I1, rx, q1⟩ => thn (hi.run pins s1 σ H1 _ I1 q1) fun iv s2 ⟨y, H2, I2, ry, a, b, kvs, k, v, ex, ey, g, hk, hv, q2⟩ => ?_)
  subst ex ey
  obtain rfl : u = Value.ref a := rx
  obtain rfl : iv = Value.ref b := ry
  exact ⟨g.typeIs I2, n_getItem hu I2 g hk hv fun w' s3 I3 rw' => ⟨v, H2, I3, rw', q2⟩⟩
theorem pc_nin (hK : X.K = K) (hP : X.prog = P) (hw : X.w = w) (hu : X.A.units + 1 < cLine) (hi : PE X i ty) (ho : PE X o td) : PC X .In i o (tNIn K P w ty td) := by
  subst hK hP hw
  refine ⟨fun pins s σ H Q I h => ?_⟩
  refine thn (hi.run pins s σ H _ I h) fun iv s1 ⟨y, H1, I1, ry, q1⟩ => thn (ho.run pins s1 σ H1 _ I1 q1) fun u s2 ⟨x, H2, I2, rx, a, b, kvs, k, ex, ey, g, hk, q2⟩ => ?_
  subst ex ey
  obtain rfl : u = Value.ref a := rx
  obtain rfl : iv = Value.ref b := ry
  exact n_in hu I2 g hk fun s3 I3 => ⟨.bl _, H2, I3, rfl, q2⟩
theorem pc_nnotin (hK : X.K = K) (hP : X.prog = P) (hw : X.w = w) (hu : X.A.units + 1 < cLine) (hi : PE X i ty) (ho : PE X o td) : PC X .NotIn i o (tNNotIn K P w ty td) := by
  subst hK hP hw
  refine ⟨fun pins s σ H Q I h => ?_⟩
  refine thn (hi.run pins s σ H _ I h) fun iv s1 ⟨y, H1, I1, ry, q1⟩ => thn (ho.run pins s1 σ H1 _ I1 q1) fun u s2 ⟨x, H2, I2, rx, a, b, kvs, k, ex, ey, g, hk, q2⟩ => ?_
  subst ex ey
  obtain rfl : u = Value.ref a := rx
  obtain rfl : iv = Value.ref b := ry
  exact n_notIn hu I2 g hk fun s3 I3 => ⟨.bl _, H2, I3, rfl, q2⟩
theorem ps_nput (hK : X.K = K) (hP : X.prog = P) (hw : X.w = w) (hu : X.A.units + 1 < cLine) (ho : PE X o td) (hi : PE X i ty) (hv : PE X value tv) (hs : swapsWith value (some (.Subscript o i pos')) pos.line X.env = pure false) :
    PS X (.Assign [.Subscript o i pos'] value pos) (sNPut K P w td ty tv) := by
  subst hK hP hw
  refine ⟨fun pins s σ H D I h => ?_⟩
  refine wpAny_Assign_Subscript (thn (hv.run pins s σ H _ I h) fun r s1 ⟨v, H1, I1, rv, q1⟩ => thn (ho.run pins s1 σ H1 _ I1 q1) fun u s2 ⟨x, H2, I2, rx, q2⟩ => thn (hi.run pins s2 σ H2 _ I2 q2) fun iv s3 ⟨y, H3, I3, ry, a, b, kvs, k, ex, ey, g, hk, hl, q3⟩ => ?_) hs
  subst ex ey
  obtain rfl : u = Value.ref a := rx
  obtain rfl : iv = Value.ref b := ry
  exact n_setItem hu I3 g hk hl rv fun H' h1 h2 h3 s4 I4 => ⟨σ, H', I4, q3 H' h1 h2 h3⟩
theorem pe_nget1 (hK : X.K = K) (hP : X.prog = P) (hw : X.w = w) (hu : X.A.units + 1 < cLine) (ho : PE X o td) (he : PE X e ty) (m : M1 X o "get" apos e cpos) : PE X (.Call (.Attribute o "get" apos) [e] [] cpos) (tNGet1 K P w td ty) := by
  subst hK hP hw
  refine ⟨fun pins s σ H Q I h => ?_⟩
  refine wpAny_Call_method m.base m.few m.line PySem.F.plainAttrs_dict PySem.F.slot_dict_get PySem.F.type_dict_get (thn (ho.run pins s σ H _ I h) fun u s1 ⟨x, H1, I1, rx, a, kvs, ex, d, q1⟩ => ?_)
  subst ex
  obtain rfl : u = Value.ref a := rx
  refine ⟨d.typeIs I1, d.noDict I1, ?_⟩
  rw [m.trees]
  refine Calls.callWith_builtin rfl (Calls.evalArgs_plain (Calls.spliced_cons (thn (he.run pins s1 σ H1 _ I1 q1) fun iv s2 ⟨y, H2, I2, ry, b, k, ey, g, hk, q2⟩ => Calls.spliced_nil ?_)))
  subst ey
  obtain rfl : iv = Value.ref b := ry
  exact n_get1 hu I2 g hk fun w' s3 I3 rw' => ⟨_, H2, I3, rw', q2⟩
theorem pe_nget2 (hK : X.K = K) (hP : X.prog = P) (hw : X.w = w) (hu : X.A.units + 1 < cLine) (ho : PE X o td) (he : PE X e ty) (hf : PE X f tx) (m : M2 X o "get" apos e f cpos) : PE X (.Call (.Attribute o "get" apos) [e, f] [] cpos) (tNGet2 K P w td ty tx) := by
  subst hK hP hw
  refine ⟨fun pins s σ H Q I h => ?_⟩
  refine wpAny_Call_method m.base m.few m.line PySem.F.plainAttrs_dict PySem.F.slot_dict_get PySem.F.type_dict_get (thn (ho.run pins s σ H _ I h) fun u s1 ⟨x, H1, I1, rx, a, kvs, ex, d, q1⟩ => ?_)
  subst ex
  obtain rfl : u = Value.ref a := rx
  refine ⟨d.typeIs I1, d.noDict I1, ?_⟩
  rw [m.trees]
  refine Calls.callWith_builtin rfl (Calls.evalArgs_plain (Calls.spliced_cons (thn (he.run pins s1 σ H1 _ I1 q1) fun iv s2 ⟨y, H2, I2, ry, q2⟩ =>
    Calls.spliced_cons (thn (hf.run pins s2 σ H2 _ I2 q2) fun fv s3 ⟨z, H3, I3, rz, b, k, ey, g, hk, q3⟩ => Calls.spliced_nil ?_))))
  subst ey
  obtain rfl : iv = Value.ref b := ry
  exact n_get2 hu I3 g hk rz fun w' s4 I4 rw' => ⟨_, H3, I4, rw', q3⟩
end
theorem u2_of {A : Around} {k : Nat} (hr : Room k A) : A.units + 2 < cLine := Nat.lt_of_le_of_lt (Nat.add_le_add_left (by decide : 2 ≤ 64) _) hr.units
/-! ### {} and dict(list of pairs) -/
theorem dx_empty {P : Program} {w : World} (h : Heap) (hb : sysModules < h.objs.size) : DX0 P w (h.push { cls := .type "dict", data := .dict #[] }) h.objs.size [] :=
  ⟨Nat.zero_le _, beq_eq_false_iff_ne.mpr (Ne.symm (Nat.ne_of_lt hb)), [], .nil, _, #[], 0, Heap.get?_push_size _ rfl, ⟨rfl, rfl, rfl⟩, rfl, rfl, List.nodup_nil⟩
def tNNew (K : PySem.W.Frag) (P : Program) (w : World) : TE := fun _ H Q => ∀ p H', H p = none → Same H H' → DN K P w H' p [] → Q (.ref p) H'
theorem pe_nnew {X : Cx} {K : PySem.W.Frag} {P : Program} {w : World} {pos : Pos} (hK : X.K = K) (hP : X.prog = P) (hw : X.w = w) : PE X (.Dict [] [] pos) (tNNew K P w) := by
  subst hK hP hw
  refine ⟨fun pins s σ H Q I h => ?_⟩
  have hn : H s.heap.objs.size = none := I.hok.fresh (Nat.le_refl _)
  exact wpAny_Dict_empty ⟨.ref s.heap.objs.size, _, I.laid (a := s.heap.objs.size) (o := DXO X.prog X.w s.heap.objs.size []) (t' := s.toks) (fun _ _ q => Heap.get?_push_of_some _ q) (Nat.le_refl _) (dx_new (dx_empty s.heap I.big)), rfl, h _ _ hn (same_upd hn) ⟨[], upd_same, (fun x hx => nomatch hx), rfl⟩⟩
def mergeT (kvs more : List (List Int × V)) : List (List Int × V) := more.foldl (fun acc kv => putK acc kv.1 kv.2) kvs
def allX (L M : KX) : KX := M.foldl (fun acc p => putX acc p.1 p.2.1 p.2.2) L
theorem RX.all {M : KX} {ms : List (List Int × Addr × Value)} (r : RX M ms) : ∀ {L : KX} {xs : List (List Int × Addr × Value)}, RX L xs → RX (allX L M) (storedAllH xs ms) := by
  unfold RX at r
  induction r with
  | nil => intro L xs q; exact q
  | @cons p q ps qs h t ih =>
    intro L xs hq
    show RX (allX (putX L p.1 p.2.1 p.2.2) ps) (storedAllH (storedH xs q.1 q.2.1 q.2.2) qs)
    rw [← h.1, ← h.2.1]
    exact ih (hq.put _ h.2.2)
theorem kvX_all : ∀ (M L : KX), kvX (allX L M) = mergeT (kvX L) (kvX M)
  | [], _ => rfl
  | p :: M, L => by
    show kvX (allX (putX L p.1 p.2.1 p.2.2) M) = mergeT (putK (kvX L) p.1 p.2.2) (kvX M)
    rw [kvX_all M, kvX_put]
theorem allX_key {Pr : List Int → Addr → Prop} : ∀ {M L : KX}, (∀ x ∈ L, Pr x.1 x.2.1) → (∀ x ∈ M, Pr x.1 x.2.1) → ∀ x ∈ allX L M, Pr x.1 x.2.1
  | [], _, h, _ => h
  | p :: M, L, h, hp => allX_key (M := M) (L := putX L p.1 p.2.1 p.2.2) (fun x hx => by
      rcases putX_key hx with ⟨y, hy, e1, e2⟩ | ⟨e1, e2⟩
      · rw [e1, e2]; exact h y hy
      · rw [e1, e2]; exact hp p List.mem_cons_self) fun x hx => hp x (List.mem_cons_of_mem _ hx)
theorem putX_len (L : KX) (k : List Int) (b : Addr) (v : V) : (putX L k b v).length ≤ L.length + 1 := by
  unfold putX
  split <;> simp
theorem allX_len : ∀ (M L : KX), (allX L M).length ≤ L.length + M.length
  | [], _ => Nat.le_refl _
  | p :: M, L => by
    have h1 := allX_len M (putX L p.1 p.2.1 p.2.2)
    have h2 := putX_len L p.1 p.2.1 p.2.2
    show (allX (putX L p.1 p.2.1 p.2.2) M).length ≤ _
    simp only [List.length_cons]
    omega
/-- a list of pairs (tuple of ints, value) -/
def rDictT (K : PySem.W.Frag) (P : Program) (w : World) : List V → Hp → VK → Prop := fun xs H Q => ∃ (a : Addr) (ts : List Addr) (M : KX), xs = [V.ref a] ∧ SqL K H a (ts.map V.ref) ∧ Paired (fun t m => SqT K H t [V.ref m.2.1, m.2.2] ∧ SqT K H m.2.1 (m.1.map V.int)) ts M ∧
  ∀ p H', H p = none → Same H H' → DN K P w H' p (mergeT [] (kvX M)) → Q (.ref p) H'
theorem pairsT_of {X : Cx} {pins : List (Addr × Obj)} {σ : L2.St} {H : Hp} {s : Shared} (I : Inv X pins σ H s) : ∀ {ts : List Addr} {M : KX}, Paired (fun t m => SqT X.K H t [V.ref m.2.1, m.2.2] ∧ SqT X.K H m.2.1 (m.1.map V.int)) ts M →
    ∃ ms : List (List Int × Addr × Value), RX M ms ∧ ms.length = ts.length ∧ ∀ (j : Nat) (q : List Int × Addr × Value), ms[j]? = some q → ∃ t, ts[j]? = some t ∧ IsTup s.heap t #[Value.ref q.2.1, q.2.2] ∧ IsT X.prog X.w s.heap q.1 q.2.1
  | _, _, .nil => ⟨[], .nil, rfl, fun j q e => by simp at e⟩
  | _, _, .cons (a := p) (b := m) h t => by
    obtain ⟨ms, r, hl, hp⟩ := pairsT_of I t
    obtain ⟨its, rv, ht, _⟩ := I.tuple h.1
    obtain ⟨u, y, ei, ru, ry⟩ := vals2 rv
    subst ei
    cases ru
    refine ⟨(m.1, m.2.1, y) :: ms, .cons ⟨rfl, rfl, ry⟩ r, by rw [List.length_cons, List.length_cons, hl], fun j q e => ?_⟩
    cases j with
    | zero =>
      have e' : (m.1, m.2.1, y) = q := Option.some.inj e
      subst e'
      exact ⟨p, rfl, ht, I.isT h.2⟩
    | succ j =>
      obtain ⟨b, e1, e2, e3⟩ := hp j q (by simpa using e)
      exact ⟨b, by simpa using e1, e2, e3⟩
theorem call_dictT {X : Cx} {K : PySem.W.Frag} {P : Program} {w : World} (hK : X.K = K) (hP : X.prog = P) (hw : X.w = w) (hcalm : X.calm = true) (hu : X.A.units + 2 < cLine) : CallR X (.type "dict") (rDictT K P w) := by
  subst hK hP hw
  intro pins s σ H xs us Q I r q
  obtain ⟨a, ts, M, ex, hq, hp, q⟩ := q
  subst ex
  obtain ⟨u, eu, rx⟩ := vals1 r
  subst eu
  cases rx
  obtain ⟨its, rv, pl, hz⟩ := I.list hq
  have ei := refs_at rv
  subst ei
  rw [List.length_map] at hz
  obtain ⟨ms, rel, hl, hpr⟩ := pairsT_of I hp
  obtain ⟨o, n, ho, hc, hd, hdat⟩ := pl
  have hmsM := rel.len
  have isAll : ∀ x ∈ ms, (tupleKind (intKind X.prog X.w)).is s.heap x.1 x.2.1 := fun x hx => by
    obtain ⟨j, hj⟩ := List.mem_iff_getElem?.mp hx
    obtain ⟨t, _, _, h3⟩ := hpr j x hj
    exact h3
  have hn : H s.heap.objs.size = none := I.hok.fresh (Nat.le_refl _)
  refine call_dict_pairsH (knd := tupleKind (intKind X.prog X.w)) (ps := ms) (PairArg.list a (ts.map Value.ref).toArray (fun j => ts.getD j 0) (ms.map fun m => (Value.ref m.2.1, m.2.2))) (I.ok.hd hcalm) ?_ ⟨⟨o, n, ho, hc, hd, hdat⟩, ?_, ?_⟩ ⟨?_, ?_⟩ (fun h' hk x hx => ?_) ?_ fun h' tk hd' hk => ?_
  · show X.A.in1.units + 1 < cLine
    exact hu
  · simp [hl]
  · intro j k v hj
    rw [List.getElem?_map, Option.map_eq_some_iff] at hj
    obtain ⟨m, hm, em⟩ := hj
    cases em
    obtain ⟨t, e1, e2, e3⟩ := hpr j m hm
    have et : ts.getD j 0 = t := by rw [List.getD_eq_getElem?_getD, e1]; rfl
    dsimp only
    rw [et]
    refine ⟨by simp [e1], ?_⟩
    exact .inl e2
  · simp
  · intro i key v hr
    rw [PairRel, List.getElem?_map, Option.map_eq_some_iff] at hr
    obtain ⟨m, hm, em⟩ := hr
    cases em
    exact ⟨m.1, m.2.1, hm, rfl⟩
  · have := isAll x hx
    obtain ⟨o', items, n', ho', hc', hd', hi'⟩ := (show IsTupleKey (intKind X.prog X.w) s.heap x.1 x.2.1 from this)
    exact ⟨o', items, n', hk _ _ (Nat.ne_of_lt (Heap.lt_size ho')) (fun z => nomatch z) ho', hc', hd', hi'⟩
  · rw [List.length_map, hl]; exact hz
  · have hm : (s.heap.objs.size == sysModules) = false := beq_eq_false_iff_ne.mpr (Nat.ne_of_gt I.big)
    have hlen : (allX [] M).length ≤ sizeLine := by
      refine Nat.le_trans (allX_len M []) ?_
      rw [List.length_nil, Nat.zero_add, hmsM, hl]
      exact hz
    obtain ⟨o', es, ep, h1, h2, h3, h4, _, h5⟩ := hd'
    have I2 := I.laid (t' := tk) (fun b u e => hk b u (fun z => nomatch z) e) (Nat.le_refl _) (dx_new (H := upd H s.heap.objs.size (DXO X.prog X.w s.heap.objs.size (allX [] M))) (P := X.prog) (w := X.w) (h := h') (d := s.heap.objs.size) (L := allX [] M) ⟨hlen, hm, _, RX.all rel .nil, o', es, ep, h1, h2, h3, h4, h5⟩)
    refine ⟨.ref s.heap.objs.size, _, I2, rfl, q _ _ hn (same_upd hn) ⟨allX [] M, upd_same, ?_, kvX_all M []⟩⟩
    refine allX_key (Pr := fun k b => SqT X.K (upd H s.heap.objs.size (DXO X.prog X.w s.heap.objs.size (allX [] M))) b (k.map V.int)) (fun x hx => nomatch hx) fun x hx => ?_
    have fnd : ∀ {ts : List Addr} {M : KX}, Paired (fun t m => SqT X.K H t [V.ref m.2.1, m.2.2] ∧ SqT X.K H m.2.1 (m.1.map V.int)) ts M → ∀ x ∈ M, SqT X.K H x.2.1 (x.1.map V.int) := by
      intro ts M hp
      induction hp with
      | nil => intro x hx; exact nomatch hx
      | @cons p q ps qs h t ih =>
        intro x hx
        rcases List.mem_cons.mp hx with e | hx
        · subst e; exact h.2
        · exact ih x hx
    exact Same.tup (same_upd hn) (fnd hp x hx)
end MB

set_option maxHeartbeats 4000000
namespace MB
open PySem PySem.Spec PyProof.Rows L2
/-! ### a dict as a function from keys to data -/
def OD (K : PySem.W.Frag) (H : Hp) : Option V → Option PyData → Prop
  | none, none => True
  | some v, some d => Dp K H v d
  | _, _ => False
theorem OD.same {K : PySem.W.Frag} {H H' : Hp} (s : Same H H') : ∀ {o : Option V} {d : Option PyData}, OD K H o d → OD K H' o d
  | none, none, _ => True.intro
  | some _, some _, h => Dp.same s h
  | none, some _, h => False.elim h
  | some _, none, h => False.elim h
theorem OD.keep {K : PySem.W.Frag} {H H' : Hp} (s : Keep K H H') : ∀ {o : Option V} {d : Option PyData}, (∀ x, d = some x → Tf x) → OD K H o d → OD K H' o d
  | none, none, _, _ => True.intro
  | some _, some _, t, h => Dp.keep s (t _ rfl) h
  | none, some _, _, h => False.elim h
  | some _, none, _, h => False.elim h
theorem OD.get {K : PySem.W.Frag} {H : Hp} : ∀ {o : Option V} {d : PyData}, OD K H o (some d) → ∃ v, o = some v ∧ Dp K H v d
  | some v, _, h => ⟨v, rfl, h⟩
  | none, _, h => False.elim h
theorem OD.non {K : PySem.W.Frag} {H : Hp} : ∀ {o : Option V}, OD K H o none → o = none
  | some v, h => False.elim h
  | none, h => rfl
def updT (T : List Int → Option PyData) (k : List Int) (d : PyData) : List Int → Option PyData := fun j => if j = k then some d else T j
def Tab (K : PySem.W.Frag) (P : Program) (w : World) (H : Hp) (a : Addr) (n : Nat) (T : List Int → Option PyData) : Prop :=
  ∃ kvs, DN K P w H a kvs ∧ kvs.length ≤ n ∧ (∀ k, OD K H (valV kvs k) (T k)) ∧ ∀ k d, T k = some d → Tf d
section
variable {K : PySem.W.Frag} {P : Program} {w : World} {H H' : Hp} {a b : Addr} {n : Nat} {T : List Int → Option PyData} {k : List Int} {d : PyData}
theorem Tab.same (t : Tab K P w H a n T) (s : Same H H') : Tab K P w H' a n T := by
  obtain ⟨kvs, h1, h2, h3, h4⟩ := t
  exact ⟨kvs, h1.same s, h2, fun k => (h3 k).same s, h4⟩
theorem Tab.keep (t : Tab K P w H a n T) (s : Keep K H H') (e : ∀ o, H a = some o → H' a = some o) : Tab K P w H' a n T := by
  obtain ⟨kvs, h1, h2, h3, h4⟩ := t
  exact ⟨kvs, h1.keep s e, h2, fun k => (h3 k).keep s (h4 k), h4⟩
theorem Tab.mono {m : Nat} (t : Tab K P w H a n T) (h : n ≤ m) : Tab K P w H a m T := by
  obtain ⟨kvs, h1, h2, h3, h4⟩ := t
  exact ⟨kvs, h1, Nat.le_trans h2 h, h3, h4⟩
theorem Tab.some (t : Tab K P w H a n T) : ∃ o, H a = some o ∧ (∀ xs, o ≠ .lst xs) := by
  obtain ⟨kvs, ⟨L, h1, _⟩, _⟩ := t
  exact ⟨_, h1, fun xs e => nomatch e⟩
theorem Tab.ext {T' : List Int → Option PyData} (t : Tab K P w H a n T) (e : ∀ k, T k = T' k) : Tab K P w H a n T' := by
  have : T = T' := funext e
  rw [← this]; exact t
theorem Tab.at (t : Tab K P w H a n T) (e : T k = Option.some d) : ∃ kvs v, DN K P w H a kvs ∧ valV kvs k = Option.some v ∧ Dp K H v d := by
  obtain ⟨kvs, h1, h2, h3, h4⟩ := t
  have := h3 k
  rw [e] at this
  obtain ⟨v, hv, hd⟩ := this.get
  exact ⟨kvs, v, h1, hv, hd⟩
theorem Tab.at0 (t : Tab K P w H a n T) (e : T k = none) : ∃ kvs, DN K P w H a kvs ∧ valV kvs k = none := by
  obtain ⟨kvs, h1, h2, h3, h4⟩ := t
  have := h3 k
  rw [e] at this
  exact ⟨kvs, h1, this.non⟩
theorem Tab.is (t : Tab K P w H a n T) (k : List Int) : ∃ kvs, DN K P w H a kvs ∧ (valV kvs k).isSome = (T k).isSome := by
  cases e : T k with
  | none => obtain ⟨kvs, h1, h2⟩ := t.at0 e; exact ⟨kvs, h1, by rw [h2]; rfl⟩
  | some d => obtain ⟨kvs, v, h1, h2, _⟩ := t.at e; exact ⟨kvs, h1, by rw [h2]; rfl⟩
theorem Tab.put {v : V} (t : Tab K P w H a n T) (hv : Dp K H v d) (hd : Tf d) (hn : n ≤ 100000) (k : List Int) : ∃ kvs, DN K P w H a kvs ∧ kvs.length < sizeLine ∧
    ∀ H', Keep K H H' → DN K P w H' a (putK kvs k v) → Tab K P w H' a (n + 1) (updT T k d) := by
  obtain ⟨kvs, h1, h2, h3, h4⟩ := t
  refine ⟨kvs, h1, sz61 (by omega), fun H' kp g => ⟨_, g, ?_, fun j => ?_, fun j x hx => ?_⟩⟩
  · have := length_putK kvs k v
    omega
  · rw [valV_put]
    unfold updT
    by_cases e : j = k
    · rw [if_pos e, if_pos e]; exact Dp.keep kp hd hv
    · rw [if_neg e, if_neg e]; exact (h3 j).keep kp (h4 j)
  · unfold updT at hx
    by_cases e : j = k
    · rw [if_pos e] at hx; cases hx; exact hd
    · rw [if_neg e] at hx; exact h4 j x hx
theorem Tab.new (g : DN K P w H a []) : Tab K P w H a 0 (fun _ => none) := ⟨[], g, Nat.le_refl _, fun _ => True.intro, fun _ _ h => nomatch h⟩
end
theorem nodup_inj {α β : Type} {f : α → β} {l : List α} (hf : ∀ a b, f a = f b → a = b) (h : l.Nodup) : (l.map f).Nodup := by
  unfold List.Nodup
  rw [List.pairwise_map]
  exact List.Pairwise.imp (fun hne e => hne (hf _ _ e)) h
/-! ### dict([(key, value) ..]) -/
def dKV (p : List Int × PyData) : PyData := .tuple [.tuple (p.1.map PyData.int), p.2]
def lookT (ps : List (List Int × PyData)) (k : List Int) : Option PyData := (ps.find? fun p => decide (p.1 = k)).map (·.2)
theorem pairs_dp {K : PySem.W.Frag} {H : Hp} : ∀ {ps : List (List Int × PyData)} {us : List V}, DpAll K H us (ps.map dKV) →
    ∃ (ts : List Addr) (M : KX), us = ts.map V.ref ∧ Paired (fun t m => SqT K H t [V.ref m.2.1, m.2.2] ∧ SqT K H m.2.1 (m.1.map V.int)) ts M ∧ Paired (fun m p => m.1 = p.1 ∧ Dp K H m.2.2 p.2) M ps
  | [], _, .nil => ⟨[], [], rfl, .nil, .nil⟩
  | p :: ps, _, .cons h t => by
    obtain ⟨ts, M, e, h1, h2⟩ := pairs_dp t
    obtain ⟨a, xs, rfl, hS, hA⟩ := Dp.tupInv h
    cases hA with
    | cons g1 g2 =>
      cases g2 with
      | cons g3 g4 =>
        cases g4
        obtain ⟨b, rfl, hB⟩ := Dp.intsInv g1
        exact ⟨a :: ts, (p.1, b, _) :: M, by rw [e]; rfl, .cons ⟨hS, hB⟩ h1, .cons ⟨rfl, g3⟩ h2⟩
theorem mergeT_snoc : ∀ (more kvs : List (List Int × V)), ((kvs ++ more).map (·.1)).Nodup → mergeT kvs more = kvs ++ more
  | [], kvs, _ => by simp [mergeT]
  | p :: more, kvs, h => by
    have hn : valV kvs p.1 = none := by
      have := valV_any p.1 kvs
      cases e : valV kvs p.1 with
      | none => rfl
      | some v =>
        rw [e] at this
        obtain ⟨q, hq, hq2⟩ := List.any_eq_true.mp (show (kvs.any fun kv => decide (kv.1 = p.1)) = true from this)
        rw [List.map_append, List.map_cons] at h
        have := (List.nodup_append.mp h).2.2 q.1 (List.mem_map.mpr ⟨q, hq, rfl⟩) p.1 (List.mem_cons_self ..)
        exact absurd (of_decide_eq_true hq2) this
    show mergeT (putK kvs p.1 p.2) more = _
    rw [putK_new _ hn, mergeT_snoc more _ (by rw [List.append_assoc]; exact h), List.append_assoc]; rfl
theorem paired_keys {K : PySem.W.Frag} {H : Hp} {M : KX} {ps : List (List Int × PyData)} (h : Paired (fun m p => m.1 = p.1 ∧ Dp K H m.2.2 p.2) M ps) : (kvX M).map (·.1) = ps.map (·.1) := by
  induction h with
  | nil => rfl
  | @cons m p ms ps h t ih =>
    show m.1 :: (kvX ms).map (·.1) = _
    rw [ih, h.1]; rfl
theorem paired_look {K : PySem.W.Frag} {H : Hp} {M : KX} {ps : List (List Int × PyData)} (h : Paired (fun m p => m.1 = p.1 ∧ Dp K H m.2.2 p.2) M ps) (k : List Int) : OD K H (valV (kvX M) k) (lookT ps k) := by
  induction h with
  | nil => exact True.intro
  | @cons m p ms ps h t ih =>
    show OD K H (valV ((m.1, m.2.2) :: kvX ms) k) _
    by_cases e : m.1 = k
    · have e' : p.1 = k := h.1.symm.trans e
      have b : lookT (p :: ps) k = some p.2 := by simp [lookT, List.find?_cons, e']
      rw [valV_pos (p := (m.1, m.2.2)) e, b]; exact h.2
    · have e' : ¬ p.1 = k := fun z => e (h.1.trans z)
      have b : lookT (p :: ps) k = lookT ps k := by simp [lookT, List.find?_cons, e']
      rw [valV_neg (p := (m.1, m.2.2)) e, b]; exact ih
theorem lookT_mem {ps : List (List Int × PyData)} {k : List Int} {d : PyData} (h : lookT ps k = some d) : ∃ p ∈ ps, p.2 = d := by
  unfold lookT at h
  obtain ⟨p, hp, rfl⟩ := Option.map_eq_some_iff.mp h
  exact ⟨p, List.mem_of_find?_eq_some hp, rfl⟩
theorem lookT_at : ∀ {ps : List (List Int × PyData)} {k : List Int} {d : PyData} {j : Nat}, (ps.map (·.1)).Nodup → ps[j]? = some (k, d) → lookT ps k = some d
  | [], _, _, _, _, h => by simp at h
  | p :: ps, k, d, 0, _, h => by
    simp at h
    subst h
    simp [lookT]
  | p :: ps, k, d, j + 1, nd, h => by
    rw [List.map_cons, List.nodup_cons] at nd
    have h' : ps[j]? = some (k, d) := by simpa using h
    have hne : ¬ p.1 = k := fun e => nd.1 (by rw [e]; exact List.mem_map.mpr ⟨(k, d), List.mem_of_getElem? h', rfl⟩)
    have := lookT_at nd.2 h'
    unfold lookT at this ⊢
    rw [List.find?_cons, decide_eq_false hne]
    exact this
theorem Tab.make {K : PySem.W.Frag} {P : Program} {w : World} {H : Hp} {a : Addr} {us : List V} {ps : List (List Int × PyData)} {Q : VK} (hS : SqL K H a us) (hA : DpAll K H us (ps.map dKV)) (nd : (ps.map (·.1)).Nodup) (ht : ∀ p ∈ ps, Tf p.2)
    (q : ∀ p H', H p = none → Same H H' → Tab K P w H' p ps.length (lookT ps) → Q (.ref p) H') : rDictT K P w [.ref a] H Q := by
  obtain ⟨ts, M, rfl, h1, h2⟩ := pairs_dp hA
  refine ⟨a, ts, M, rfl, hS, h1, fun p H' np s g => q p H' np s ?_⟩
  have hk := paired_keys h2
  rw [mergeT_snoc (kvX M) [] (by rw [List.nil_append, hk]; exact nd), List.nil_append] at g
  refine ⟨_, g, ?_, fun k => (paired_look h2 k).same s, fun k d e => ?_⟩
  · rw [kvX_len, Paired.length h2]; exact Nat.le_refl _
  · obtain ⟨p, hp, rfl⟩ := lookT_mem e
    exact ht p hp
end MB

set_option maxHeartbeats 4000000
namespace MB
open PySem PySem.Spec PyProof.Rows L2
/-! ### comprehensions with two clauses: the items by their data -/
/-- the list under way -/
def Acc (K : PySem.W.Frag) (H1 H : Hp) (D : Addr) (ds : List PyData) : Prop := Same H1 H ∧ ∃ acc, H D = some (.lst acc) ∧ DpAll K H acc ds
theorem lc2_in {K : PySem.W.Frag} {J : It} {n : Nat} {G : Hp → Prop} {Y : Nat → Hp → V → Hp → Prop} (w : Walk J n G Y) {g : TG} {tt : TT} {te : TE} {vs : List Nat} {σ : L2.St} {H1 H4 : Hp} {D : Addr} {Nx : Hp → Prop}
    (pre ds : List PyData) (hl : ds.length = n) (hp : ∀ d, d ∈ pre → Tf d) (ht : ∀ d, d ∈ ds → Tf d) (hn : pre.length + n ≤ 100000) (hD : H1 D = none) (h4 : Acc K H1 H4 D pre) (hG : ∀ H, Same H1 H → G H)
    (hs : ∀ i x H H', i < n → Same H1 H → Y i H x H' → ∀ d, ds[i]? = some d → ∀ R : V → Hp → Prop, (∀ y H5, Same H H5 → Dp K H5 y d → R y H5) →
      g x (wipe σ vs) H' fun σ2 H2 => wipe σ2 vs = wipe σ vs ∧ tt σ2 H2 fun b H3 => b = true ∧ te σ2 H3 R)
    (hN : ∀ H, Acc K H1 H D (pre ++ ds) → Nx H)
    (mg : ∀ x σ' H' (Q Q' : L2.St → Hp → Prop), (∀ a b, Q a b → Q' a b) → g x σ' H' Q → g x σ' H' Q') (mt : ∀ σ' H' (Q Q' : Bool → Hp → Prop), (∀ a b, Q a b → Q' a b) → tt σ' H' Q → tt σ' H' Q') :
    ∃ W : Nat → Nat → Hp → Prop, (∃ m, W 0 m H4) ∧ ∀ j k H, W j k H →
      (J.stop j H ∧ Nx H) ∨ (J.go j H ∧ ∃ Nx1 : Hp → Prop, (∀ H', Nx1 H' → ∃ k', k' < k ∧ W (j + 1) k' H') ∧ ∀ x H', J.yld j H x H' → g x (wipe σ vs) H' fun σ3 H5 => wipe σ3 vs = wipe σ vs ∧ tt σ3 H5 fun b H6 =>
        if b = true then te σ3 H6 fun y H7 => ∃ acc, H7 D = some (.lst acc) ∧ acc.length < sizeLine ∧ Nx1 (upd H7 D (.lst (acc ++ [y]))) else Nx1 H6) := by
  refine ⟨fun i m H => m = n - i ∧ i ≤ n ∧ Acc K H1 H D (pre ++ ds.take i), ⟨n, by simp, Nat.zero_le _, by simpa using h4⟩, ?_⟩
  rintro i m H ⟨rfl, hi, s1, acc, ha, hA⟩
  have q := hG H s1
  by_cases hlt : i < n
  · refine .inr ⟨w.goes i H hlt q, fun H' => Acc K H1 H' D (pre ++ ds.take (i + 1)), fun H' p' => ⟨n - (i + 1), by omega, rfl, hlt, p'⟩, fun x H' y => ?_⟩
    have hd' : ds[i]? = some ds[i] := List.getElem?_eq_getElem (by omega)
    have hlen := DpAll.len hA
    rw [List.length_append, List.length_take] at hlen
    refine mg _ _ _ _ _ ?_ (hs i x H H' hlt s1 (w.yields i H x H' hlt q y) ds[i] hd' (fun y H7 => ∃ acc, H7 D = some (.lst acc) ∧ acc.length < sizeLine ∧ Acc K H1 (upd H7 D (.lst (acc ++ [y]))) D (pre ++ ds.take (i + 1))) ?_)
    · rintro σ2 H2 ⟨e1, e2⟩
      refine ⟨e1, mt _ _ _ _ ?_ e2⟩
      rintro b H3 ⟨rfl, e3⟩
      exact iteT e3
    · intro y H5 s5 hy5
      refine ⟨acc, s5 _ _ ha, sz61 (by omega), Same.mut (s1.trans s5) hD, acc ++ [y], upd_same, ?_⟩
      have kp : Keep K H5 (upd H5 D (.lst (acc ++ [y]))) := But.keep But.upd (s5 _ _ ha)
      rw [List.take_add_one, hd', ← List.append_assoc]
      refine DpAll.keep kp (fun d h => ?_) (DpAll.append (DpAll.same s5 hA) (.cons hy5 .nil))
      rcases List.mem_append.mp h with h | h
      · rcases List.mem_append.mp h with h | h
        · exact hp d h
        · exact ht d (List.mem_of_mem_take h)
      · have e : d = ds[i] := by simpa using h
        rw [e]; exact ht _ (List.getElem_mem ..)
  · have e : i = n := by omega
    subst e
    rw [List.take_of_length_le (by omega)] at hA
    exact .inl ⟨w.stops H q, hN H ⟨s1, acc, ha, hA⟩⟩
theorem yesT {σ : L2.St} {H : Hp} {T N : Hp → Prop} (h : T H) : tYes σ H (fun b H3 => if b = true then T H3 else N H3) := by
  unfold tYes
  exact iteT h
/-- what the blocks before i give -/
def blks (f : Nat → List PyData) (i : Nat) : List PyData := (List.range i).flatMap f
theorem blks_succ (f : Nat → List PyData) (i : Nat) : blks f (i + 1) = blks f i ++ f i := by
  unfold blks
  rw [List.range_succ, List.flatMap_append]
  simp
theorem mem_blks {f : Nat → List PyData} {i : Nat} {d : PyData} (h : d ∈ blks f i) : ∃ j, j < i ∧ d ∈ f j := by
  unfold blks at h
  obtain ⟨j, hj, hd⟩ := List.mem_flatMap.mp h
  exact ⟨j, List.mem_range.mp hj, hd⟩
theorem lc2_out {K : PySem.W.Frag} {J : It} {n : Nat} {G : Hp → Prop} {Y : Nat → Hp → V → Hp → Prop} (w : Walk J n G Y) {g : TG} {tt : TT} {T : L2.St → Hp → (Hp → Prop) → Prop} {vs : List Nat} {σ : L2.St} {H1 : Hp} {D : Addr} {Qd : Hp → Prop}
    (f : Nat → List PyData) (hD : H1 D = none) (hG : ∀ H, Same H1 H → G H)
    (hs : ∀ i x H H', i < n → Acc K H1 H D (blks f i) → Y i H x H' → ∀ Nx : Hp → Prop, (∀ H, Acc K H1 H D (blks f i ++ f i) → Nx H) →
      g x (wipe σ vs) H' fun σ2 H2 => wipe σ2 vs = wipe σ vs ∧ tt σ2 H2 fun b H3 => if b = true then T σ2 H3 Nx else Nx H3)
    (hd : ∀ H acc, Same H1 H → H D = some (.lst acc) → DpAll K H acc (blks f n) → Qd H) :
    ∃ W : Nat → Nat → Hp → Prop, (∃ m, W 0 m (upd H1 D (.lst []))) ∧ ∀ i m H, W i m H →
      (J.stop i H ∧ Qd H) ∨ (J.go i H ∧ ∃ Nx : Hp → Prop, (∀ H', Nx H' → ∃ m', m' < m ∧ W (i + 1) m' H') ∧ ∀ x H', J.yld i H x H' → g x (wipe σ vs) H' fun σ2 H2 => wipe σ2 vs = wipe σ vs ∧ tt σ2 H2 fun b H3 =>
        if b = true then T σ2 H3 Nx else Nx H3) := by
  refine ⟨fun i m H => m = n - i ∧ i ≤ n ∧ Acc K H1 H D (blks f i), ⟨n, by simp, Nat.zero_le _, same_upd hD, [], upd_same, .nil⟩, ?_⟩
  rintro i m H ⟨rfl, hi, p⟩
  have q := hG H p.1
  by_cases hlt : i < n
  · exact .inr ⟨w.goes i H hlt q, fun H' => Acc K H1 H' D (blks f (i + 1)), fun H' p' => ⟨n - (i + 1), by omega, rfl, hlt, p'⟩, fun x H' y => hs i x H H' hlt p (w.yields i H x H' hlt q y) _ fun H2 a => by rw [blks_succ]; exact a⟩
  · have e : i = n := by omega
    subst e
    obtain ⟨s1, acc, ha, hA⟩ := p
    exact .inl ⟨w.stops H q, hd H acc s1 ha hA⟩
theorem lc_allW {K : PySem.W.Frag} {J : It} {n : Nat} {G : Hp → Prop} {Y : Nat → Hp → V → Hp → Prop} (w : Walk J n G Y) {g : TG} {tt : TT} {te : TE} {vs : List Nat} {σ : L2.St} {H1 : Hp} {D : Addr} {Qd : Hp → Prop}
    (ds : List PyData) (hl : ds.length = n) (ht : ∀ d, d ∈ ds → Tf d) (hn : n ≤ 90000) (hD : H1 D = none) (hG : ∀ H, Same H1 H → G H)
    (hs : ∀ i x H H', i < n → Same H1 H → Y i H x H' → ∀ d, ds[i]? = some d → ∀ R : V → Hp → Prop, (∀ y H4, Same H H4 → Dp K H4 y d → R y H4) →
      g x (wipe σ vs) H' fun σ2 H2 => wipe σ2 vs = wipe σ vs ∧ tt σ2 H2 fun b H3 => b = true ∧ te σ2 H3 R)
    (hd : ∀ H acc, Same H1 H → H D = some (.lst acc) → DpAll K H acc ds → Qd H)
    (mg : ∀ x σ' H' (Q Q' : L2.St → Hp → Prop), (∀ a b, Q a b → Q' a b) → g x σ' H' Q → g x σ' H' Q') (mt : ∀ σ' H' (Q Q' : Bool → Hp → Prop), (∀ a b, Q a b → Q' a b) → tt σ' H' Q → tt σ' H' Q') :
    ∃ W : Nat → Nat → Hp → Prop, (∃ m, W 0 m (upd H1 D (.lst []))) ∧ ∀ i m H, W i m H →
      (J.stop i H ∧ Qd H) ∨ (J.go i H ∧ ∃ Nx : Hp → Prop, (∀ H', Nx H' → ∃ m', m' < m ∧ W (i + 1) m' H') ∧ ∀ x H', J.yld i H x H' → g x (wipe σ vs) H' fun σ2 H2 => wipe σ2 vs = wipe σ vs ∧ tt σ2 H2 fun b H3 =>
        if b = true then te σ2 H3 fun y H4 => ∃ acc, H4 D = some (.lst acc) ∧ acc.length < sizeLine ∧ Nx (upd H4 D (.lst (acc ++ [y]))) else Nx H3) := by
  refine lc_it w (fun i H => Same H1 H ∧ ∃ acc, H D = some (.lst acc) ∧ DpAll K H acc (ds.take i)) ⟨same_upd hD, [], upd_same, .nil⟩ (fun i H _ h => hG H h.1) ?_ ?_
  · rintro i x H H' hi ⟨s1, acc, ha, hA⟩ hy
    have hd' : ds[i]? = some ds[i] := List.getElem?_eq_getElem (by omega)
    have hlen := DpAll.len hA
    rw [List.length_take] at hlen
    refine mg _ _ _ _ _ ?_ (hs i x H H' hi s1 hy ds[i] hd' (fun y H4 => ∃ acc, H4 D = some (.lst acc) ∧ acc.length < sizeLine ∧ (Same H1 (upd H4 D (.lst (acc ++ [y]))) ∧ ∃ acc', (upd H4 D (.lst (acc ++ [y]))) D = some (.lst acc') ∧ DpAll K (upd H4 D (.lst (acc ++ [y]))) acc' (ds.take (i + 1)))) ?_)
    · rintro σ2 H2 ⟨h1, h2⟩
      refine ⟨h1, mt _ _ _ _ ?_ h2⟩
      rintro b H3 ⟨rfl, h3⟩
      exact iteT h3
    · intro y H4 s4 hy4
      refine ⟨acc, s4 _ _ ha, sz61 (by omega), Same.mut (s1.trans s4) hD, acc ++ [y], upd_same, ?_⟩
      have kp : Keep K H4 (upd H4 D (.lst (acc ++ [y]))) := But.keep But.upd (s4 _ _ ha)
      rw [List.take_add_one, hd']
      refine DpAll.keep kp (fun d h => ?_) (DpAll.append (DpAll.same s4 hA) (.cons hy4 .nil))
      rcases List.mem_append.mp h with h | h
      · exact ht d (List.mem_of_mem_take h)
      · have e : d = ds[i] := by simpa using h
        rw [e]; exact ht _ (List.getElem_mem ..)
  · rintro H ⟨s1, acc, ha, hA⟩
    rw [List.take_of_length_le (by omega)] at hA
    exact hd H acc s1 ha hA

/-- enumerate in a second clause -/
theorem k_enumT {X : Cx} {K : PySem.W.Frag} (hK : X.K = K) {e : Expr} {ta : TA} {p pos tpos : PySem.Pos} {elts : List Expr} {kk : Nat} (hg : Gl X "enumerate") (hm : X.mg "enumerate" = none) (ha : PA X [e] ta) (hs : starEach [e] X.env = [(false, eval e X.env)] := by rfl) :
    PI X (.Tuple elts kk tpos) (.Call (.Name "enumerate" p) [e] [] pos) (iEnumT K ta) := by
  subst hK
  exact pi_enumT hg hm ha hs
end MB

set_option maxHeartbeats 4000000
namespace MB
/-! ### binomial coefficients -/
def bin : Nat → Nat → Nat
  | _, 0 => 1
  | 0, _ + 1 => 0
  | n + 1, k + 1 => bin n k + bin n (k + 1)
theorem bin_zero (n : Nat) : bin n 0 = 1 := by cases n <;> rfl
theorem bin_succ (n k : Nat) : bin (n + 1) (k + 1) = bin n k + bin n (k + 1) := rfl
theorem bin_lt : ∀ {n k : Nat}, n < k → bin n k = 0
  | 0, k + 1, _ => rfl
  | n + 1, k + 1, h => by rw [bin_succ, bin_lt (n := n) (by omega), bin_lt (n := n) (by omega)]
theorem bin_self : ∀ n : Nat, bin n n = 1
  | 0 => rfl
  | n + 1 => by rw [bin_succ, bin_self n, bin_lt (by omega)]
theorem bin_one : ∀ n : Nat, bin n 1 = n
  | 0 => rfl
  | n + 1 => by rw [bin_succ, bin_zero, bin_one n]; omega
theorem bin_pos : ∀ {n k : Nat}, k ≤ n → 0 < bin n k
  | n, 0, _ => by rw [bin_zero]; decide
  | n + 1, k + 1, h => by rw [bin_succ]; have := bin_pos (n := n) (k := k) (by omega); omega
theorem bin_mul : ∀ n k : Nat, bin (n + 1) (k + 1) * (k + 1) = (n + 1) * bin n k
  | 0, 0 => by decide
  | 0, k + 1 => by simp [bin]
  | n + 1, 0 => by rw [bin_one, bin_zero]
  | n + 1, k + 1 => by
    have h1 := bin_mul n k
    have h2 := bin_mul n (k + 1)
    rw [bin_succ (n + 1) (k + 1), Nat.add_mul, h2]
    have e1 : bin (n + 1) (k + 1) * (k + 1 + 1) = bin (n + 1) (k + 1) * (k + 1) + bin (n + 1) (k + 1) := by rw [Nat.mul_add, Nat.mul_one]
    rw [e1, h1, bin_succ n k]
    grind
/-- the next one in a row -/
theorem bin_step {n j : Nat} (h : j ≤ n) : bin n (j + 1) * (j + 1) = bin n j * (n - j) := by
  have h1 := bin_mul n j
  rw [bin_succ, Nat.add_mul] at h1
  have e : (n + 1) * bin n j = bin n j * (n - j) + bin n j * (j + 1) := by rw [← Nat.mul_add, Nat.mul_comm]; congr 1; omega
  omega
theorem bin_div {n j : Nat} (h : j ≤ n) : bin n j * (n - j) / (j + 1) = bin n (j + 1) := by
  rw [← bin_step h, Nat.mul_div_cancel _ (by omega)]
theorem bin_sym : ∀ a b : Nat, bin (a + b) a = bin (a + b) b
  | 0, b => by rw [Nat.zero_add, bin_zero, bin_self]
  | a + 1, 0 => by rw [Nat.add_zero, bin_zero, bin_self]
  | a + 1, b + 1 => by
    have e : a + 1 + (b + 1) = (a + b + 1) + 1 := by omega
    rw [e, bin_succ (a + b + 1) a, bin_succ (a + b + 1) b]
    have h1 := bin_sym a (b + 1)
    have h2 := bin_sym (a + 1) b
    have e1 : a + (b + 1) = a + b + 1 := by omega
    have e2 : a + 1 + b = a + b + 1 := by omega
    rw [e1] at h1; rw [e2] at h2
    omega
theorem bin_sub {n k : Nat} (h : k ≤ n) : bin n (n - k) = bin n k := by
  have := bin_sym k (n - k)
  rw [show k + (n - k) = n by omega] at this
  exact this.symm
theorem bin_min {n k : Nat} (h : k ≤ n) : bin n (min k (n - k)) = bin n k := by
  by_cases c : k ≤ n - k
  · rw [Nat.min_eq_left c]
  · rw [Nat.min_eq_right (by omega), bin_sub h]
theorem bin_mono1 : ∀ n k : Nat, bin n k ≤ bin (n + 1) k
  | n, 0 => by rw [bin_zero, bin_zero]; exact Nat.le_refl _
  | n, k + 1 => by rw [bin_succ]; omega
theorem bin_mono {n m : Nat} (k : Nat) (h : n ≤ m) : bin n k ≤ bin m k := by
  induction h with
  | refl => exact Nat.le_refl _
  | step _ ih => exact Nat.le_trans ih (bin_mono1 _ _)
theorem bin_strict1 {n k : Nat} (h : k ≤ n + 1) : bin n (k + 1) < bin (n + 1) (k + 1) ∨ n < k := by
  by_cases c : n < k
  · exact .inr c
  · refine .inl ?_
    rw [bin_succ]
    have := bin_pos (n := n) (k := k) (by omega)
    omega
theorem bin_strict {n m k : Nat} (hk : 1 ≤ k) (hn : k ≤ n + 1) (h : n < m) : bin n k < bin m k := by
  have h1 : bin n k < bin (n + 1) k := by
    obtain ⟨j, rfl⟩ : ∃ j, k = j + 1 := ⟨k - 1, by omega⟩
    rw [bin_succ]
    have := bin_pos (n := n) (k := j) (by omega)
    omega
  exact Nat.lt_of_lt_of_le h1 (bin_mono k h)
theorem bin_pow : ∀ n k : Nat, bin n k ≤ (n + 1) ^ k
  | n, 0 => by rw [bin_zero]; simp
  | 0, k + 1 => by rw [bin_lt (by omega)]; exact Nat.zero_le _
  | n + 1, k + 1 => by
    have h := bin_mul n k
    have h1 : bin (n + 1) (k + 1) ≤ bin (n + 1) (k + 1) * (k + 1) := Nat.le_mul_of_pos_right _ (by omega)
    have h2 := bin_pow n k
    have h3 : (n + 1) ^ k ≤ (n + 1 + 1) ^ k := Nat.pow_le_pow_left (by omega) _
    have h4 : (n + 1) * bin n k ≤ (n + 1 + 1) * (n + 1 + 1) ^ k := Nat.mul_le_mul (by omega) (Nat.le_trans h2 h3)
    have h5 : (n + 1 + 1) ^ (k + 1) = (n + 1 + 1) * (n + 1 + 1) ^ k := by rw [Nat.pow_succ, Nat.mul_comm]
    omega
theorem bin_bits {n k : Nat} (hn : n < 2 ^ 64) (hk : k ≤ 64) : bin n k < 2 ^ 4097 := by
  have h1 := bin_pow n k
  have h2 : (n + 1) ^ k ≤ (2 ^ 64) ^ k := Nat.pow_le_pow_left (by omega) _
  have h3 : (2 ^ 64) ^ k ≤ (2 ^ 64 : Nat) ^ 64 := Nat.pow_le_pow_right (by decide) hk
  have h4 : ((2 ^ 64 : Nat) ^ 64) < 2 ^ 4097 := by decide +kernel
  omega
theorem bin_big {k c : Nat} (hk : 1 ≤ k) : c + 1 ≤ bin (k + c) k := by
  induction c with
  | zero => show 1 ≤ bin k k; rw [bin_self]; exact Nat.le_refl _
  | succ c ih =>
    have := bin_strict (n := k + c) (m := k + (c + 1)) (k := k) hk (by omega) (by omega)
    omega
end MB

set_option maxHeartbeats 4000000
namespace MB
open PySem PySem.Spec PyProof.Rows L2

/-! ### sorted(xs), xs a list of tuples of ints, of any length -/
def dT (ns : List Int) : PyData := .tuple (ns.map PyData.int)
def kT (ns : List Int) : List (Int ⊕ List Nat) := ns.map Sum.inl
def ltT (a b : List Int) : Bool := lexLt itemOrd (kT a) (kT b)
def noS : Nat → Bool := fun _ => false
theorem items_ints : ∀ {vs : List Value} {ns : List Int}, IntsAre vs ns → ∀ i : Nat, tupItems noS i vs = some (kT ns)
  | _, _, .nil, _ => rfl
  | _, _, .cons n t h, i => by
    have ih := items_ints h (i + 1)
    show (if noS i = true then none else (tupItems noS (i + 1) _).map (Sum.inl n :: ·)) = _
    rw [if_neg (by simp [noS]), ih]; rfl
theorem key_of {h : Heap} {v : Value} {ns : List Int} (x : TS.TupInts h v ns) : G.tupKeyC h noS v = some (kT ns) := by
  obtain ⟨a, xs, rfl, ⟨o, ho, hc, n, hd⟩, hi⟩ := x
  unfold G.tupKeyC
  have e1 : G.isTupObj h (.ref a) = true := by simp [G.isTupObj, ho, hc]
  rw [if_pos e1]
  show (match h.get? a with | some o => (match o.data with | .seq xs _ => tupItems noS 0 xs.toList | _ => none) | none => none) = _
  rw [ho]
  show (match o.data with | .seq xs _ => tupItems noS 0 xs.toList | _ => none) = _
  rw [hd]
  exact items_ints hi 0
theorem tup_of {h : Heap} {v : Value} {n : Int} {ns : List Int} (x : TS.TupInts h v (n :: ns)) : ∃ f, TupOf h noS v f := by
  obtain ⟨a, xs, rfl, ⟨o, ho, hc, m, hd⟩, hi⟩ := x
  obtain ⟨l⟩ := xs
  cases hi with
  | cons n t h => exact ⟨_, a, o, _, m, rfl, ho, hc, hd, rfl, fun _ => ⟨_, _, rfl⟩, fun e => nomatch e⟩
section
variable {X : Cx} {pins : List (Addr × Obj)} {σ : L2.St} {H : Hp} {s : Shared}
theorem tups_raw (I : Inv X pins σ H s) : ∀ {xs : List V} {nss : List (List Int)} {its : List Value}, DpAll X.K H xs (nss.map dT) → Vals xs its →
    nss = its.map (TS.intsOf s.heap) ∧ (∀ u ∈ its, ∃ a, u = Value.ref a ∧ TS.TupInts s.heap u (TS.intsOf s.heap u) ∧ SqT X.K H a ((TS.intsOf s.heap u).map V.int))
  | _, [], _, .nil, .nil => ⟨rfl, fun _ h => nomatch h⟩
  | _, ns :: nss, _, .cons a b, .cons r rs => by
    obtain ⟨h1, h2⟩ := tups_raw I b rs
    obtain ⟨p, rfl, hp⟩ := Dp.intsInv a
    cases r
    have ht := tupI_raw I hp
    have e := ht.ints
    refine ⟨by rw [h1, List.map_cons, e], fun u hu => ?_⟩
    rcases List.mem_cons.mp hu with rfl | hu
    · exact ⟨p, rfl, by rw [e]; exact ht, by rw [e]; exact hp⟩
    · exact h2 u hu
theorem dps_of {K : PySem.W.Frag} {h : Heap} : ∀ {us : List Value}, (∀ u ∈ us, ∃ a, u = Value.ref a ∧ TS.TupInts h u (TS.intsOf h u) ∧ SqT K H a ((TS.intsOf h u).map V.int)) → DpAll K H (us.map bkV) ((us.map (TS.intsOf h)).map dT)
  | [], _ => .nil
  | u :: us, hh => by
    obtain ⟨a, rfl, _, hp⟩ := hh u (List.mem_cons_self ..)
    exact .cons (dp_tup hp) (dps_of fun v hv => hh v (List.mem_cons_of_mem _ hv))
def rSortI (K : PySem.W.Frag) : List V → Hp → VK → Prop := fun vs H Q => ∃ (a : Addr) (xs : List V) (nss : List (List Int)), vs = [V.ref a] ∧ SqL K H a xs ∧ DpAll K H xs (nss.map dT) ∧ (2 ≤ nss.length → ∀ ns ∈ nss, ns ≠ []) ∧
  ∀ (ys : List V) (mss : List (List Int)) (p : Addr), DpAll K H ys (mss.map dT) → mss.Perm nss → mss.Pairwise (fun a b => ltT b a = false) → H p = none → Q (.ref p) (upd H p (.lst ys))
theorem tupsOf_ex {h : Heap} : ∀ {us : List Value}, (∀ u ∈ us, TS.TupInts h u (TS.intsOf h u) ∧ TS.intsOf h u ≠ []) → ∃ fs, TupsOf h noS us fs
  | [], _ => ⟨[], .nil⟩
  | u :: us, hh => by
    obtain ⟨fs, hf⟩ := tupsOf_ex fun v hv => hh v (List.mem_cons_of_mem _ hv)
    obtain ⟨h1, h2⟩ := hh u (List.mem_cons_self ..)
    cases e : TS.intsOf h u with
    | nil => exact absurd e h2
    | cons n ns =>
      rw [e] at h1
      obtain ⟨f, ht⟩ := tup_of h1
      exact ⟨f :: fs, .cons ht hf⟩
theorem cr_sortI : CallR X (.builtin "sorted") (rSortI X.K) := by
  intro pins s σ H vs us Q I r h
  obtain ⟨a, xs, nss, rfl, hs, hA, hne, q⟩ := h
  obtain ⟨its, rv, hl, hz⟩ := I.list hs
  rw [Vals.ref1 r]
  obtain ⟨e1, e2⟩ := tups_raw I hA rv
  have hlen : its.length = nss.length := by rw [e1, List.length_map]
  have hk : ∀ v, v ∈ its → ∃ l, G.tupKeyC s.heap noS v = some l := fun v hv => by
    obtain ⟨b, _, ht, _⟩ := e2 v hv
    exact ⟨_, key_of ht⟩
  have hL : its.length ≤ sizeLine := by rw [← rv.length]; exact hz
  refine G.sortedG (κ := G.tupKindC s.heap noS) (kd := tuples' true) hl.isList (G.tupKeys hk) (fun s₂ k => G.tupC_ltAt (s := s₂) true k) (fun h2 A' E' s₂ Q' k hq => ?_) hL fun st' h1 h2 h3 => ?_
  · obtain ⟨fs, ht⟩ := tupsOf_ex (h := s.heap) (us := its) fun u hu => by
      obtain ⟨b, _, ht, _⟩ := e2 u hu
      refine ⟨ht, hne (by omega) _ ?_⟩
      rw [e1]; exact List.mem_map.mpr ⟨u, hu, rfl⟩
    exact tup_kind (s := s₂) (by rw [G.TupsOf.length ht]; omega) (G.TupsOf.keep k ht) hq
  · have hp : (arrOf st').toList.Perm (its.zip its) := by rw [← pairsOf_toList]; exact Array.perm_iff_toList_perm.mp h1
    have hself : ∀ p ∈ (arrOf st').toList, p.1 = p.2 ∧ p.1 ∈ its := fun p hm => mem_zip_self (hp.mem_iff.mp hm)
    have hout : ((arrOf st').map (·.2)).toList = (arrOf st').toList.map (·.2) := Array.toList_map
    have hpo : ((arrOf st').map (·.2)).toList.Perm its := by
      rw [hout]
      refine (hp.map (·.2)).trans ?_
      rw [List.map_snd_zip (Nat.le_refl _)]
    obtain ⟨ep, he'⟩ := PyProof.Rows.sortedAll_at s.heap its ((arrOf st').map (·.2))
    generalize ho : ((arrOf st').map (·.2)) = out at hpo he' hout ⊢
    have e3 : ∀ u ∈ out.toList, ∃ a, u = Value.ref a ∧ TS.TupInts s.heap u (TS.intsOf s.heap u) ∧ SqT X.K H a ((TS.intsOf s.heap u).map V.int) := fun u hu => e2 u (hpo.mem_iff.mp hu)
    have h3' : ∀ u ∈ out.toList, ∃ a, u = Value.ref a := fun u hu => let ⟨a, e, _⟩ := e3 u hu; ⟨a, e⟩
    have hl2 : (out.toList.map bkV).length ≤ sizeLine := by rw [List.length_map, hpo.length_eq]; exact hL
    refine ⟨.ref _, upd H (s.heap.objs.size + 1) (.lst (out.toList.map bkV)), I.laid (t' := s.toks) (fun _ _ => PyProof.Rows.sortedAll_old) (Nat.le_succ _) ⟨hl2, out.toList, ep, bkV_vals h3', he'⟩, rfl, q _ (out.toList.map (TS.intsOf s.heap)) _ (dps_of e3) (by rw [e1]; exact hpo.map _) ?_ (I.hok.fresh (Nat.le_succ _))⟩
    rw [List.pairwise_map]
    refine List.pairwise_iff_getElem.mpr fun i j hi hj hij => ?_
    have hsz : out.toList.length = (arrOf st').size := by rw [hout, List.length_map, Array.length_toList]
    have hpz : (arrOf st').size = (pairsOf its).size := h1.size_eq
    have kk : ∀ m (hm : m < out.toList.length), KK (G.tupKindC s.heap noS) (arrOf st') m = kT (TS.intsOf s.heap out.toList[m]) := fun m hm => by
      have hm2 : m < (arrOf st').size := by omega
      have em : (arrOf st')[m]? = some (arrOf st')[m] := Array.getElem?_eq_getElem hm2
      have hmem : (arrOf st')[m] ∈ (arrOf st').toList := Array.mem_toList_iff.mpr (Array.getElem_mem hm2)
      obtain ⟨f1, f2⟩ := hself _ hmem
      have f3 : out.toList[m] = (arrOf st')[m].2 := by
        simp only [hout, List.getElem_map, Array.getElem_toList]
      unfold KK
      rw [em]
      obtain ⟨b, _, ht, _⟩ := e2 _ f2
      show (G.tupKeyC s.heap noS (arrOf st')[m].1).getD [] = _
      rw [key_of ht, f3, ← f1]; rfl
    have := h2 i j (Nat.le_of_lt hij) (by omega)
    rw [kk i hi, kk j hj] at this
    exact this
end
end MB

set_option maxHeartbeats 4000000
namespace MB
open PySem PySem.Spec PyProof.Rows L2
/-! ### sorted(d), the keys of d tuples of ints -/
theorem kdl_rawD {prog : Program} {w : World} {d : Addr} {es : Array DictEntry} {ep : Nat} (lo : (d == sysModules) = false) :
    PySem.W.KdlSrc prog w "dict" d d es.size (fun i v => ∃ hi : i < es.size, v = es[i].key) (fun g => g.DictRaw d es ep) where
  type := fun _ g => g.typeIs
  there := fun _ g => ⟨let ⟨_, e, _⟩ := g; Heap.lt_size e, let ⟨_, e, _⟩ := g; Heap.lt_size e⟩
  keep := fun _ _ g k => g.at fun o e => k d (.inl rfl) o e
  notList := by decide
  notTuple := by decide
  hint := fun _ _ _ _ g q => PySem.W.kdl_hint_dict g.typeIs q
  iter := fun _ _ hh g => ⟨_, _, (fun _ _ q => wpAny_pyIter_dict_raw lo g q), Walks.rawKeys hh _ d (Nat.ne_of_lt (let ⟨_, e, _⟩ := g; Heap.lt_size e)) es ep, ⟨⟨_, Heap.get?_push_size _ rfl, rfl, rfl⟩, g.at fun o e => Heap.get?_push_of_some _ e⟩⟩
section
variable {X : Cx} {pins : List (Addr × Obj)} {σ : L2.St} {H : Hp} {s : Shared}
/-- what sorting gives, read back as tracked tuples -/
theorem sort_out (I : Inv X pins σ H s) {its : List Value} {nss : List (List Int)} (e1 : nss = its.map (TS.intsOf s.heap))
    (e2 : ∀ u ∈ its, ∃ a, u = Value.ref a ∧ TS.TupInts s.heap u (TS.intsOf s.heap u) ∧ SqT X.K H a ((TS.intsOf s.heap u).map V.int)) {st' : SortSt}
    (h1 : (arrOf st').Perm (pairsOf its)) (h2 : SortedToK (G.tupKindC s.heap noS) (arrOf st') (pairsOf its).size) :
    ∃ (us : List Value) (ys : List V) (mss : List (List Int)), ((arrOf st').map (·.2)).toList = us ∧ Vals ys us ∧ ys.length = its.length ∧ DpAll X.K H ys (mss.map dT) ∧ mss.Perm nss ∧ mss.Pairwise (fun a b => ltT b a = false) := by
  have hp : (arrOf st').toList.Perm (its.zip its) := by rw [← pairsOf_toList]; exact Array.perm_iff_toList_perm.mp h1
  have hself : ∀ p ∈ (arrOf st').toList, p.1 = p.2 ∧ p.1 ∈ its := fun p hm => mem_zip_self (hp.mem_iff.mp hm)
  have hout : ((arrOf st').map (·.2)).toList = (arrOf st').toList.map (·.2) := Array.toList_map
  have hpo : ((arrOf st').map (·.2)).toList.Perm its := by
    rw [hout]
    refine (hp.map (·.2)).trans ?_
    rw [List.map_snd_zip (Nat.le_refl _)]
  generalize ho : ((arrOf st').map (·.2)).toList = us at hpo hout ⊢
  have e3 : ∀ u ∈ us, ∃ a, u = Value.ref a ∧ TS.TupInts s.heap u (TS.intsOf s.heap u) ∧ SqT X.K H a ((TS.intsOf s.heap u).map V.int) := fun u hu => e2 u (hpo.mem_iff.mp hu)
  refine ⟨us, us.map bkV, us.map (TS.intsOf s.heap), rfl, bkV_vals fun u hu => let ⟨a, e, _⟩ := e3 u hu; ⟨a, e⟩, by rw [List.length_map, hpo.length_eq], dps_of e3, by rw [e1]; exact hpo.map _, ?_⟩
  rw [List.pairwise_map]
  refine List.pairwise_iff_getElem.mpr fun i j hi hj hij => ?_
  have hsz : us.length = (arrOf st').size := by rw [hout, List.length_map, Array.length_toList]
  have hpz : (arrOf st').size = (pairsOf its).size := h1.size_eq
  have kk : ∀ m (hm : m < us.length), KK (G.tupKindC s.heap noS) (arrOf st') m = kT (TS.intsOf s.heap us[m]) := fun m hm => by
    have hm2 : m < (arrOf st').size := by omega
    have em : (arrOf st')[m]? = some (arrOf st')[m] := Array.getElem?_eq_getElem hm2
    have hmem : (arrOf st')[m] ∈ (arrOf st').toList := Array.mem_toList_iff.mpr (Array.getElem_mem hm2)
    obtain ⟨f1, f2⟩ := hself _ hmem
    have f3 : us[m] = (arrOf st')[m].2 := by
      simp only [hout, List.getElem_map, Array.getElem_toList]
    unfold KK
    rw [em]
    obtain ⟨b, _, ht, _⟩ := e2 _ f2
    show (G.tupKeyC s.heap noS (arrOf st')[m].1).getD [] = _
    rw [key_of ht, f3, ← f1]; rfl
  have := h2 i j (Nat.le_of_lt hij) (by omega)
  rw [kk i hi, kk j hj] at this
  exact this
def rSortD (K : PySem.W.Frag) (P : Program) (w : World) : List V → Hp → VK → Prop := fun vs H Q => ∃ (d : Addr) (kvs : List (List Int × V)), vs = [V.ref d] ∧ DN K P w H d kvs ∧ (∀ kv ∈ kvs, kv.1 ≠ []) ∧
  ∀ (ys : List V) (mss : List (List Int)) (p : Addr), DpAll K H ys (mss.map dT) → mss.Perm (kvs.map (·.1)) → mss.Pairwise (fun a b => ltT b a = false) → H p = none → Q (.ref p) (upd H p (.lst ys))
theorem rx_keys {L : KX} {xs : List (List Int × Addr × Value)} (r : RX L xs) : L.map (fun x => (x.1, x.2.1)) = xs.map (fun x => (x.1, x.2.1)) := by
  unfold RX at r
  induction r with
  | nil => rfl
  | @cons p q ps qs h t ih => rw [List.map_cons, List.map_cons, ih, h.1, h.2.1]
theorem dpk {K : PySem.W.Frag} {H : Hp} : ∀ {L : KX}, (∀ x ∈ L, SqT K H x.2.1 (x.1.map V.int)) → DpAll K H (L.map fun x => V.ref x.2.1) ((L.map (·.1)).map dT)
  | [], _ => .nil
  | x :: L, h => .cons (dp_tup (h x (List.mem_cons_self ..))) (dpk fun y hy => h y (List.mem_cons_of_mem _ hy))
theorem vals_refs {L : KX} : Vals (L.map fun x => V.ref x.2.1) (L.map fun x => Value.ref x.2.1) := by
  induction L with
  | nil => exact .nil
  | cons x L ih => exact .cons rfl ih
theorem cr_sortD {K : PySem.W.Frag} {P : Program} {w : World} (hK : X.K = K) (hP : X.prog = P) (hw : X.w = w) (hcalm : X.calm = true) : CallR X (.builtin "sorted") (rSortD K P w) := by
  subst hK hP hw
  intro pins s σ H vs us Q I r h
  obtain ⟨d, kvs, rfl, g, hne, q⟩ := h
  rw [Vals.ref1 r]
  obtain ⟨lo, L, xs, _, hS, ekv, rel, hz, dd⟩ := g.at I
  obtain ⟨o, es, ep, ho, hex, hdat, hes, _, _⟩ := dd
  have raw : s.heap.DictRaw d es ep := ⟨o, ho, hex, hdat⟩
  have hLx : L.map (fun x => x.2.1) = xs.map (fun x => x.2.1) := by
    have := congrArg (List.map fun p : List Int × Addr => p.2) (rx_keys rel)
    rw [List.map_map, List.map_map] at this
    exact this
  have hsz : es.size = L.length := by rw [← Array.length_toList, hes, List.length_map, rel.len]
  have keyAt : ∀ i (hi : i < es.size), some es[i].key = (L.map fun x => Value.ref x.2.1)[i]? := fun i hi => by
    have e1 : es.toList[i]? = some es[i] := by rw [Array.getElem?_toList, Array.getElem?_eq_getElem hi]
    rw [hes, List.getElem?_map] at e1
    have e2 : (L.map (fun x => x.2.1))[i]? = (xs.map (fun x => x.2.1))[i]? := by rw [hLx]
    rw [List.getElem?_map, List.getElem?_map] at e2
    rw [List.getElem?_map]
    cases hx : xs[i]? with
    | none => rw [hx] at e1; cases e1
    | some y =>
      rw [hx] at e1 e2
      have e3 : entryOfKey (tupleKind (intKind X.prog X.w)) y = es[i] := Option.some.inj e1
      cases hl : L[i]? with
      | none => rw [hl] at e2; cases e2
      | some x =>
        rw [hl] at e2
        have e4 : x.2.1 = y.2.1 := Option.some.inj e2
        rw [← e3]
        show some (Value.ref y.2.1) = some (Value.ref x.2.1)
        rw [e4]
  have h16 : es.size ≤ sizeLine := by rw [hsz]; exact hz
  refine Calls.call_function_entry PyProof.Rows.kind_sorted PyProof.Rows.plain_sorted PyProof.Rows.entry_sorted (PyProof.Rows.args_sorted1 _) ?_
  unfold Builtin.«sorted»
  refine wpAny_bind (m := checkCount "sorted" 1 1 _) (wpAny_pure ?_)
  refine wpAny_bind (PySem.W.kdu_collect (A := X.A.in1) (kdl_rawD (es := es) (ep := ep) lo) (I.ok.hd hcalm) raw h16 fun h' tk acc hk hacc => ?_)
  have eacc : acc.toList = L.map fun x => Value.ref x.2.1 := by
    refine List.ext_getElem? fun i => ?_
    by_cases hi : i < es.size
    · have hi2 : i < acc.size := by rw [hacc.1]; exact hi
      obtain ⟨_, e⟩ := hacc.2 i acc[i] (Array.getElem?_eq_getElem hi2)
      rw [Array.getElem?_toList, Array.getElem?_eq_getElem hi2, e]
      exact keyAt i hi
    · rw [List.getElem?_eq_none (by rw [Array.length_toList, hacc.1]; omega), List.getElem?_eq_none (by rw [List.length_map]; omega)]
  have I1 : Inv X pins σ H { s with heap := h', toks := tk } := I.kept hk
  rw [eacc]
  generalize hits : L.map (fun x => Value.ref x.2.1) = its
  have hil : its.length = L.length := by rw [← hits, List.length_map]
  obtain ⟨e1, e2⟩ := tups_raw I1 (nss := L.map (·.1)) (dpk hS) (its := its) (by rw [← hits]; exact vals_refs)
  refine wpAny_bind (wpAny_newList ?_ (by rw [hil]; exact hz))
  have hoL : (h'.push (seqObj "list" its.toArray 0)).get? h'.objs.size = some (seqObj "list" its.toArray 0) := Heap.get?_push_size _ rfl
  show wpAny _ _ _ _ _ { s with heap := h'.push (seqObj "list" its.toArray 0), toks := tk }
  have k0 : G.KeepsTups h' (h'.push (seqObj "list" its.toArray 0)) := G.KeepsTups.push _ _
  have k6 := k0.trans (G.keeps_sort6 (vs := its) hoL)
  have hkey : ∀ v, v ∈ its → ∃ l, G.tupKeyC h' noS v = some l := fun v hv => by
    obtain ⟨b, _, ht, _⟩ := e2 v hv
    exact ⟨_, key_of ht⟩
  refine wpAny_bind (wpAny_holding (wpAny_call_entry PyProof.Rows.slot_list_sort ⟨_, hoL, rfl⟩ PyProof.Rows.entry_list_sort
    (G.list_sort_treeG (κ := G.tupKindC h' noS) (kd := tuples' true) (s := { s with heap := h'.push (seqObj "list" its.toArray 0), toks := tk }) hoL (G.tupKeys hkey) (G.tupC_ltAt true k6) (fun h2 Q' hq => ?_) (by rw [hil]; exact hz) fun st' hp hs _ => ⟨_, rfl, ?_⟩)
    (PyProof.Rows.args_list_sort _)))
  · obtain ⟨fs, ht⟩ := tupsOf_ex (h := h') (us := its) fun u hu => by
      obtain ⟨b, _, ht, _⟩ := e2 u hu
      refine ⟨ht, ?_⟩
      have hm : TS.intsOf h' u ∈ L.map (·.1) := by rw [e1]; exact List.mem_map.mpr ⟨u, hu, rfl⟩
      obtain ⟨x, hx, ex⟩ := List.mem_map.mp hm
      rw [← ex]
      exact hne (x.1, x.2.2) (by rw [← ekv]; exact List.mem_map.mpr ⟨x, hx, rfl⟩)
    exact tup_kind (by rw [G.TupsOf.length ht]; omega) (G.TupsOf.keep k6 ht) hq
  · obtain ⟨us', ys, mss, f1, f2, f3, f4, f5, f6⟩ := sort_out I1 e1 e2 hp hs
    obtain ⟨e', he'⟩ := PyProof.Rows.sortedHeap_at (vs := its) (out := (arrOf st').map (·.2)) hoL
    have hlen : ys.length ≤ sizeLine := by rw [f3, hil]; exact hz
    have f5' : mss.Perm (kvs.map (·.1)) := by
      rw [← ekv]
      unfold kvX
      rw [List.map_map]
      exact f5
    refine wpAny_pure ⟨_, rfl, .ref h'.objs.size, upd H h'.objs.size (.lst ys), I1.laid (t' := tk) (fun b u e => ?_) (Nat.le_refl _) (show ObjOk X.prog X.w _ _ _ (.lst ys) from ⟨hlen, us', e', f2, by rw [← f1, Array.toArray_toList]; exact he'⟩), rfl, q ys mss _ f4 f5' f6 (I1.hok.fresh (Nat.le_refl _))⟩
    have hb : b < h'.objs.size := Heap.lt_size e
    rw [PyProof.Rows.sortedHeap_old (Nat.ne_of_lt hb) (by rw [size_push']; exact Nat.lt_succ_of_lt hb)]
    exact Heap.get?_push_of_some _ e
end
end MB

set_option maxHeartbeats 4000000
namespace MB
open PySem PySem.Spec PyProof.Rows L2
/-! ### sorted(t), t a tuple of tuples of ints -/
section
variable {prog : Program} {w : World} {A : Around} {E : Value → Shared → Prop} {s : Shared}
theorem collect_tup {l : Addr} {vs : List Value} {Q : List Value → Shared → Prop} (hl : IsTup s.heap l vs.toArray) (hsz : vs.length ≤ sizeLine)
    (h : Q vs { s with heap := (s.heap.push (seqObj "list" #[] 0)).update s.heap.objs.size (Obj.mapSeq (· ++ vs.toArray)) }) :
    wpAny (model prog w) A (collect (.ref l)) Q E s := by
  obtain ⟨o, ho, hc, n, hd⟩ := id hl
  unfold collect
  refine wpAny_bind (wpAny_runValue (codeAny_builtin F.entry_proto_collect ?_))
  show wpAny _ _ (do again (.builtin "list.__iadd__" ⟨[← newList [], .ref l], []⟩)) _ _ s
  refine wpAny_bind (wpAny_newList (wpAny_pure ⟨Code.quiet_builtin _ (by decide +kernel), codeAny_builtin F.entry_list_iadd ?_⟩))
  show wpAny _ _ (Builtin.List.listExtendWith (.ref s.heap.objs.size) (.ref l) (.ref s.heap.objs.size)) _ _ { s with heap := s.heap.push (seqObj "list" #[] 0) }
  unfold Builtin.List.listExtendWith
  have ho' : (s.heap.push (seqObj "list" #[] 0)).get? l = some o := Heap.get?_push_of_some _ ho
  refine wpAny_bind (wpAny_typeOf (T := "tuple") ⟨o, ho', hc⟩ ?_)
  have ht : (Value.type "tuple" == Value.type "tuple") = true := by rfl
  rw [if_pos (by rw [ht]; simp)]
  refine wpAny_bind (listItems_at ho' hd ?_)
  refine wpAny_bind (listItems_at (xs := #[]) (n := 0) (Heap.get?_push_size _ rfl) rfl ?_)
  rw [if_neg (by simp)]
  refine wpAny_bind (listUpdate_at (xs := #[]) (n := 0) (Heap.get?_push_size _ rfl) rfl ?_ (Nat.zero_le _) (by show (#[] ++ vs.toArray).size ≤ sizeLine + 1; simp only [Array.size_append, List.size_toArray, List.length_nil]; omega))
  refine wpAny_pure ?_
  show wpAny (model prog w) A (do
      let o ← load s.heap.objs.size
      match o.data with
      | .seq xs _ => pure xs.toList
      | _ => unsupported "internal:collect") Q E { s with heap := (s.heap.push (seqObj "list" #[] 0)).update s.heap.objs.size (Obj.mapSeq (· ++ vs.toArray)) }
  refine wpAny_bind (wpAny_load (get?_update_seq (Heap.get?_push_size _ rfl) _) ?_)
  show wpAny _ _ (pure ((#[] : Array Value) ++ vs.toArray).toList) Q E _
  rw [show ((#[] : Array Value) ++ vs.toArray).toList = vs by simp]
  exact wpAny_pure h
end
section
variable {X : Cx}
def rSortTP (K : PySem.W.Frag) : List V → Hp → VK → Prop := fun vs H Q => ∃ (a : Addr) (xs : List V) (nss : List (List Int)), vs = [V.ref a] ∧ SqT K H a xs ∧ DpAll K H xs (nss.map dT) ∧ (2 ≤ nss.length → ∀ ns ∈ nss, ns ≠ []) ∧
  ∀ (ys : List V) (mss : List (List Int)) (p : Addr), DpAll K H ys (mss.map dT) → mss.Perm nss → mss.Pairwise (fun a b => ltT b a = false) → H p = none → Q (.ref p) (upd H p (.lst ys))
theorem cr_sortTP : CallR X (.builtin "sorted") (rSortTP X.K) := by
  intro pins s σ H vs us Q I r h
  obtain ⟨a, xs, nss, rfl, hs, hA, hne, q⟩ := h
  obtain ⟨its, rv, hl, hz0⟩ := I.tuple hs
  rw [Vals.ref1 r]
  have hz : its.length ≤ sizeLine := by rw [← rv.length]; exact hz0
  refine Calls.call_function_entry PyProof.Rows.kind_sorted PyProof.Rows.plain_sorted PyProof.Rows.entry_sorted (PyProof.Rows.args_sorted1 _) ?_
  unfold Builtin.«sorted»
  refine wpAny_bind (m := checkCount "sorted" 1 1 _) (wpAny_pure ?_)
  refine wpAny_bind (collect_tup hl hz ?_)
  generalize hh' : (s.heap.push (seqObj "list" #[] 0)).update s.heap.objs.size (Obj.mapSeq (· ++ its.toArray)) = h'
  have hk : ∀ b o, s.heap.get? b = some o → h'.get? b = some o := fun b o e => by
    have hb : b < s.heap.objs.size := Heap.lt_size e
    rw [← hh', Heap.get?_update_ne _ _ _ _ (Nat.ne_of_lt hb)]
    exact Heap.get?_push_of_some _ e
  have I1 : Inv X pins σ H { s with heap := h', toks := s.toks } := I.kept hk
  obtain ⟨e1, e2⟩ := tups_raw I1 hA rv
  refine wpAny_bind (wpAny_newList ?_ hz)
  have hoL : (h'.push (seqObj "list" its.toArray 0)).get? h'.objs.size = some (seqObj "list" its.toArray 0) := Heap.get?_push_size _ rfl
  show wpAny _ _ _ _ _ { s with heap := h'.push (seqObj "list" its.toArray 0), toks := s.toks }
  have k0 : G.KeepsTups h' (h'.push (seqObj "list" its.toArray 0)) := G.KeepsTups.push _ _
  have k6 := k0.trans (G.keeps_sort6 (vs := its) hoL)
  have hkey : ∀ v, v ∈ its → ∃ l, G.tupKeyC h' noS v = some l := fun v hv => by
    obtain ⟨b, _, ht, _⟩ := e2 v hv
    exact ⟨_, key_of ht⟩
  have hlen0 : its.length = nss.length := by rw [e1, List.length_map]
  refine wpAny_bind (wpAny_holding (wpAny_call_entry PyProof.Rows.slot_list_sort ⟨_, hoL, rfl⟩ PyProof.Rows.entry_list_sort
    (G.list_sort_treeG (κ := G.tupKindC h' noS) (kd := tuples' true) (s := { s with heap := h'.push (seqObj "list" its.toArray 0), toks := s.toks }) hoL (G.tupKeys hkey) (G.tupC_ltAt true k6) (fun h2 Q' hq => ?_) hz fun st' hp hs _ => ⟨_, rfl, ?_⟩)
    (PyProof.Rows.args_list_sort _)))
  · obtain ⟨fs, ht⟩ := tupsOf_ex (h := h') (us := its) fun u hu => by
      obtain ⟨b, _, ht, _⟩ := e2 u hu
      refine ⟨ht, hne (by omega) _ ?_⟩
      rw [e1]; exact List.mem_map.mpr ⟨u, hu, rfl⟩
    exact tup_kind (by rw [G.TupsOf.length ht]; omega) (G.TupsOf.keep k6 ht) hq
  · obtain ⟨us', ys, mss, f1, f2, f3, f4, f5, f6⟩ := sort_out I1 e1 e2 hp hs
    obtain ⟨e', he'⟩ := PyProof.Rows.sortedHeap_at (vs := its) (out := (arrOf st').map (·.2)) hoL
    have hlen : ys.length ≤ sizeLine := by rw [f3]; exact hz
    refine wpAny_pure ⟨_, rfl, .ref h'.objs.size, upd H h'.objs.size (.lst ys), I1.laid (t' := s.toks) (fun b u e => ?_) (Nat.le_refl _) (show ObjOk X.prog X.w _ _ _ (.lst ys) from ⟨hlen, us', e', f2, by rw [← f1, Array.toArray_toList]; exact he'⟩), rfl, q ys mss _ f4 f5 f6 (I1.hok.fresh (Nat.le_refl _))⟩
    have hb : b < h'.objs.size := Heap.lt_size e
    rw [PyProof.Rows.sortedHeap_old (Nat.ne_of_lt hb) (by rw [size_push']; exact Nat.lt_succ_of_lt hb)]
    exact Heap.get?_push_of_some _ e
end
end MB

open PySem PySem.Spec PyProof.Rows L2
namespace MB
theorem lc_allB {K : PySem.W.Frag} {J : It} {n : Nat} {G : Hp → Prop} {Y : Nat → Hp → V → Hp → Prop} (w : Walk J n G Y) {g : TG} {tt : TT} {te : TE} {vs : List Nat} {σ : L2.St} {H1 : Hp} {D : Addr} {Qd : Hp → Prop}
    (ds : List PyData) (hl : ds.length = n) (ht : ∀ d, d ∈ ds → Tf d) (hn : n ≤ sizeLine) (hD : H1 D = none) (hG : ∀ H, Same H1 H → G H)
    (hs : ∀ i x H H', i < n → Same H1 H → Y i H x H' → ∀ d, ds[i]? = some d → ∀ R : V → Hp → Prop, (∀ y H4, Same H H4 → Dp K H4 y d → R y H4) →
      g x (wipe σ vs) H' fun σ2 H2 => wipe σ2 vs = wipe σ vs ∧ tt σ2 H2 fun b H3 => b = true ∧ te σ2 H3 R)
    (hd : ∀ H acc, Same H1 H → H D = some (.lst acc) → DpAll K H acc ds → Qd H)
    (mg : ∀ x σ' H' (Q Q' : L2.St → Hp → Prop), (∀ a b, Q a b → Q' a b) → g x σ' H' Q → g x σ' H' Q') (mt : ∀ σ' H' (Q Q' : Bool → Hp → Prop), (∀ a b, Q a b → Q' a b) → tt σ' H' Q → tt σ' H' Q') :
    ∃ W : Nat → Nat → Hp → Prop, (∃ m, W 0 m (upd H1 D (.lst []))) ∧ ∀ i m H, W i m H →
      (J.stop i H ∧ Qd H) ∨ (J.go i H ∧ ∃ Nx : Hp → Prop, (∀ H', Nx H' → ∃ m', m' < m ∧ W (i + 1) m' H') ∧ ∀ x H', J.yld i H x H' → g x (wipe σ vs) H' fun σ2 H2 => wipe σ2 vs = wipe σ vs ∧ tt σ2 H2 fun b H3 =>
        if b = true then te σ2 H3 fun y H4 => ∃ acc, H4 D = some (.lst acc) ∧ acc.length < sizeLine ∧ Nx (upd H4 D (.lst (acc ++ [y]))) else Nx H3) := by
  refine lc_it w (fun i H => Same H1 H ∧ ∃ acc, H D = some (.lst acc) ∧ DpAll K H acc (ds.take i)) ⟨same_upd hD, [], upd_same, .nil⟩ (fun i H _ h => hG H h.1) ?_ ?_
  · rintro i x H H' hi ⟨s1, acc, ha, hA⟩ hy
    have hd' : ds[i]? = some ds[i] := List.getElem?_eq_getElem (by omega)
    have hlen := DpAll.len hA
    rw [List.length_take] at hlen
    refine mg _ _ _ _ _ ?_ (hs i x H H' hi s1 hy ds[i] hd' (fun y H4 => ∃ acc, H4 D = some (.lst acc) ∧ acc.length < sizeLine ∧ (Same H1 (upd H4 D (.lst (acc ++ [y]))) ∧ ∃ acc', (upd H4 D (.lst (acc ++ [y]))) D = some (.lst acc') ∧ DpAll K (upd H4 D (.lst (acc ++ [y]))) acc' (ds.take (i + 1)))) ?_)
    · rintro σ2 H2 ⟨h1, h2⟩
      refine ⟨h1, mt _ _ _ _ ?_ h2⟩
      rintro b H3 ⟨rfl, h3⟩
      exact iteT h3
    · intro y H4 s4 hy4
      refine ⟨acc, s4 _ _ ha, by omega, Same.mut (s1.trans s4) hD, acc ++ [y], upd_same, ?_⟩
      have kp : Keep K H4 (upd H4 D (.lst (acc ++ [y]))) := But.keep But.upd (s4 _ _ ha)
      rw [List.take_add_one, hd']
      refine DpAll.keep kp (fun d h => ?_) (DpAll.append (DpAll.same s4 hA) (.cons hy4 .nil))
      rcases List.mem_append.mp h with h | h
      · exact ht d (List.mem_of_mem_take h)
      · have e : d = ds[i] := by simpa using h
        rw [e]; exact ht _ (List.getElem_mem ..)
  · rintro H ⟨s1, acc, ha, hA⟩
    rw [List.take_of_length_le (by omega)] at hA
    exact hd H acc s1 ha hA

end MB

set_option maxHeartbeats 4000000
namespace MB
/-! ### the lower left hull of points in the plane -/
abbrev Pt := Int × Int
/-- the value of a point at prices -/
def vlu (x y : Int) (p : Pt) : Int := x * p.1 + y * p.2
/-- a point is the only least one of some, at some prices -/
def Cnr (S : Pt → Prop) (p : Pt) : Prop := ∃ x y : Int, 0 < x ∧ 0 < y ∧ ∀ q, S q → q ≠ p → vlu x y p < vlu x y q
structure Hul (S : Pt → Prop) (L : List Pt) : Prop where
  sub : ∀ p, p ∈ L → S p
  inc : L.Pairwise fun p q => p.1 < q.1
  dom : ∀ x y : Int, 0 < x → 0 < y → ∀ p, S p → ∃ k, k ∈ L ∧ vlu x y k ≤ vlu x y p
  own : ∀ p, p ∈ L → Cnr (· ∈ L) p
theorem Hul.cnr {S : Pt → Prop} {L : List Pt} (h : Hul S L) (hp : ∀ p, S p → 0 ≤ p.1 ∧ 0 ≤ p.2) {b : Pt} (hb : b ∈ L) : Cnr S b := by
  obtain ⟨x, y, hx, hy, hs⟩ := h.own b hb
  have b0 := hp b (h.sub b hb)
  generalize hN : 1 + b.1 + b.2 = N
  have N0 : 0 < N := by omega
  have e1 : ∀ q : Pt, vlu (N * x + 1) (N * y) q = N * vlu x y q + q.1 := fun q => by
    simp only [vlu, Int.add_mul, Int.mul_add, Int.mul_assoc, Int.one_mul]; omega
  have e2 : ∀ q : Pt, vlu (N * x) (N * y + 1) q = N * vlu x y q + q.2 := fun q => by
    simp only [vlu, Int.add_mul, Int.mul_add, Int.mul_assoc, Int.one_mul]; omega
  have e3 : ∀ q : Pt, vlu (2 * (N * x) + 1) (2 * (N * y) + 1) q = (N * vlu x y q + q.1) + (N * vlu x y q + q.2) := fun q => by
    simp only [vlu, Int.add_mul, Int.mul_add, Int.mul_assoc, Int.one_mul]; omega
  have nx : 0 < N * x := Int.mul_pos N0 hx
  have ny : 0 < N * y := Int.mul_pos N0 hy
  have up : ∀ k, k ∈ L → k ≠ b → N * vlu x y b + N ≤ N * vlu x y k := fun k hk ne => by
    have := hs k hk ne
    have : N * (vlu x y b + 1) ≤ N * vlu x y k := Int.mul_le_mul_of_nonneg_left (by omega) (by omega)
    rw [Int.mul_add, Int.mul_one] at this
    exact this
  refine ⟨_, _, (by omega : 0 < 2 * (N * x) + 1), (by omega : 0 < 2 * (N * y) + 1), fun p hS ne => ?_⟩
  rw [e3, e3]
  have g1 : N * vlu x y b + b.1 ≤ N * vlu x y p + p.1 := by
    obtain ⟨k, hk, hl⟩ := h.dom (N * x + 1) (N * y) (by omega) ny p hS
    rw [e1, e1] at hl
    by_cases e : k = b
    · subst e; exact hl
    · have := up k hk e; have := hp k (h.sub k hk); omega
  have g2 : N * vlu x y b + b.2 ≤ N * vlu x y p + p.2 := by
    obtain ⟨k, hk, hl⟩ := h.dom (N * x) (N * y + 1) nx (by omega) p hS
    rw [e2, e2] at hl
    by_cases e : k = b
    · subst e; exact hl
    · have := up k hk e; have := hp k (h.sub k hk); omega
  refine Int.lt_iff_le_and_ne.mpr ⟨by omega, fun eq => ?_⟩
  have q1 : N * vlu x y b + b.1 = N * vlu x y p + p.1 := by omega
  have q2 : N * vlu x y b + b.2 = N * vlu x y p + p.2 := by omega
  have d : p.1 - b.1 = p.2 - b.2 := by omega
  have e : N * vlu x y b - N * vlu x y p = p.1 - b.1 := by omega
  have f : vlu x y p - vlu x y b = (x + y) * (p.1 - b.1) := by
    have w1 : p.1 = b.1 + (p.1 - b.1) := by omega
    have w2 : p.2 = b.2 + (p.1 - b.1) := by omega
    generalize p.1 - b.1 = t at w1 w2 ⊢
    simp only [vlu, w1, w2, Int.add_mul, Int.mul_add]; omega
  have g : N * (vlu x y p - vlu x y b) = - (p.1 - b.1) := by rw [Int.mul_sub]; omega
  rw [f, ← Int.mul_assoc] at g
  have hxy : 0 < N * (x + y) := Int.mul_pos N0 (by omega)
  generalize N * (x + y) = M at g hxy
  have z : (M + 1) * (p.1 - b.1) = 0 := by rw [Int.add_mul, g]; omega
  have z2 : p.1 - b.1 = 0 := by
    rcases Int.mul_eq_zero.mp z with h | h
    · omega
    · exact h
  apply ne
  apply Prod.ext <;> omega
theorem sorted_eq : ∀ {A B : List Pt}, (A.Pairwise fun p q => p.1 < q.1) → (B.Pairwise fun p q => p.1 < q.1) → (∀ p, p ∈ A ↔ p ∈ B) → A = B
  | [], [], _, _, _ => rfl
  | [], b :: B, _, _, h => absurd ((h b).mpr (List.mem_cons_self ..)) (by simp)
  | a :: A, [], _, _, h => absurd ((h a).mp (List.mem_cons_self ..)) (by simp)
  | a :: A, b :: B, hA, hB, h => by
    have hA' := List.pairwise_cons.mp hA
    have hB' := List.pairwise_cons.mp hB
    have e : a = b := by
      rcases List.mem_cons.mp ((h a).mp (List.mem_cons_self ..)) with e | m
      · exact e
      · rcases List.mem_cons.mp ((h b).mpr (List.mem_cons_self ..)) with e | m2
        · exact e.symm
        · have := hA'.1 b m2; have := hB'.1 a m; omega
    subst e
    congr 1
    refine sorted_eq hA'.2 hB'.2 fun p => ⟨fun m => ?_, fun m => ?_⟩
    · rcases List.mem_cons.mp ((h p).mp (List.mem_cons_of_mem _ m)) with e | m2
      · subst e; have := hA'.1 p m; omega
      · exact m2
    · rcases List.mem_cons.mp ((h p).mpr (List.mem_cons_of_mem _ m)) with e | m2
      · subst e; have := hB'.1 p m; omega
      · exact m2
theorem Cnr.mem {S : Pt → Prop} {L : List Pt} (h : Hul S L) {p : Pt} (hp : S p) (hc : Cnr S p) : p ∈ L := by
  obtain ⟨x, y, hx, hy, hs⟩ := hc
  obtain ⟨k, hk, hl⟩ := h.dom x y hx hy p hp
  by_cases e : k = p
  · subst e; exact hk
  · have := hs k (h.sub k hk) e; omega
theorem Hul.uniq {S : Pt → Prop} {A B : List Pt} (hA : Hul S A) (hB : Hul S B) (hp : ∀ p, S p → 0 ≤ p.1 ∧ 0 ≤ p.2) : A = B :=
  sorted_eq hA.inc hB.inc fun p => ⟨fun m => (hA.cnr hp m).mem hB (hA.sub p m), fun m => (hB.cnr hp m).mem hA (hB.sub p m)⟩
/-! ### chains that turn -/
/-- how far a point stands above the line of two -/
def abv (p q z : Pt) : Int := (p.2 - q.2) * (z.1 - p.1) + (q.1 - p.1) * (z.2 - p.2)
theorem tri {A a C c Z z : Int} (hA : 0 < A) (hC : 0 < C) (hZ : 0 < Z) (h1 : A * c < a * C) (h2 : C * z < c * Z) : A * z < a * Z := by
  have e1 : A * (C * z) < A * (c * Z) := Int.mul_lt_mul_of_pos_left h2 hA
  have e2 : Z * (A * c) < Z * (a * C) := Int.mul_lt_mul_of_pos_left h1 hZ
  have e3 : C * (A * z) < C * (a * Z) := by
    have r1 : C * (A * z) = A * (C * z) := Int.mul_left_comm ..
    have r2 : A * (c * Z) = Z * (A * c) := by rw [← Int.mul_assoc, Int.mul_comm]
    have r3 : C * (a * Z) = Z * (a * C) := by rw [Int.mul_comm a Z, Int.mul_left_comm, Int.mul_comm C a]
    omega
  exact Int.lt_of_mul_lt_mul_left e3 (by omega)
/-- from the middle of three, in differences -/
theorem abv_mid (a b z : Pt) : abv a b z = (a.2 - b.2) * (z.1 - b.1) + (b.1 - a.1) * (z.2 - b.2) := by
  have e1 : z.1 - a.1 = (z.1 - b.1) + (b.1 - a.1) := by omega
  have e2 : z.2 - a.2 = (z.2 - b.2) - (a.2 - b.2) := by omega
  unfold abv
  rw [e1, e2, Int.mul_add, Int.mul_sub (b.1 - a.1), Int.mul_comm (b.1 - a.1) (a.2 - b.2)]; omega
theorem abv_right {a b c z : Pt} (h1 : a.1 < b.1) (h2 : b.1 < c.1) (h3 : b.1 < z.1) (g1 : 0 < abv a b c) (g2 : 0 < abv b c z) : 0 < abv a b z := by
  rw [abv_mid] at g1 ⊢
  have k1 : (b.1 - a.1) * (b.2 - c.2) < (a.2 - b.2) * (c.1 - b.1) := by
    have : b.2 - c.2 = -(c.2 - b.2) := by omega
    rw [this, Int.mul_neg]; omega
  have k2 : (c.1 - b.1) * (b.2 - z.2) < (b.2 - c.2) * (z.1 - b.1) := by
    have : b.2 - z.2 = -(z.2 - b.2) := by omega
    rw [this, Int.mul_neg]; unfold abv at g2; omega
  have := tri (by omega : 0 < b.1 - a.1) (by omega : 0 < c.1 - b.1) (by omega : 0 < z.1 - b.1) k1 k2
  have e : b.2 - z.2 = -(z.2 - b.2) := by omega
  rw [e, Int.mul_neg] at this
  omega
theorem abv_left {a b c z : Pt} (h1 : a.1 < b.1) (h2 : b.1 < c.1) (h3 : z.1 < b.1) (g1 : 0 < abv a b c) (g2 : 0 < abv a b z) : 0 < abv b c z := by
  rw [abv_mid] at g1 g2
  have k1 : (c.1 - b.1) * (a.2 - b.2) > (b.2 - c.2) * (b.1 - a.1) := by
    have : b.2 - c.2 = -(c.2 - b.2) := by omega
    rw [this, Int.neg_mul, Int.mul_comm (c.2 - b.2), Int.mul_comm (c.1 - b.1)]; omega
  have k2 : (a.2 - b.2) * (b.1 - z.1) < (b.1 - a.1) * (z.2 - b.2) := by
    have : b.1 - z.1 = -(z.1 - b.1) := by omega
    rw [this, Int.mul_neg]; omega
  have := tri (A := c.1 - b.1) (a := b.2 - c.2) (C := b.1 - a.1) (c := a.2 - b.2) (Z := b.1 - z.1) (z := z.2 - b.2)
  -- the other way round
  have t := tri (A := b.1 - z.1) (a := z.2 - b.2) (C := b.1 - a.1) (c := a.2 - b.2) (Z := c.1 - b.1) (z := b.2 - c.2) (by omega) (by omega) (by omega)
    (by rw [Int.mul_comm (b.1 - z.1), Int.mul_comm (z.2 - b.2)]; exact k2) (by rw [Int.mul_comm (b.1 - a.1), Int.mul_comm (a.2 - b.2)]; exact k1)
  unfold abv
  have : z.1 - b.1 = -(b.1 - z.1) := by omega
  rw [this, Int.mul_neg, Int.mul_comm (b.2 - c.2), Int.mul_comm (c.1 - b.1)]
  omega
theorem vlu_abv (p q z : Pt) : vlu (p.2 - q.2) (q.1 - p.1) z - vlu (p.2 - q.2) (q.1 - p.1) p = abv p q z := by
  simp only [vlu, abv, Int.mul_sub]; omega
theorem abv_p (p q : Pt) : abv p q p = 0 := by simp [abv]
theorem abv_q (p q : Pt) : abv p q q = 0 := by rw [abv_mid]; simp
/-- goes right and down, and turns left at each point; from left to right -/
def Down (p q : Pt) : Prop := p.1 < q.1 ∧ q.2 < p.2
def Turns : List Pt → Prop
  | a :: b :: c :: l => 0 < abv a b c ∧ Turns (b :: c :: l)
  | _ => True
theorem Turns.tail {a : Pt} {l : List Pt} (h : Turns (a :: l)) : Turns l := by
  match l with
  | [] => trivial
  | [b] => trivial
  | b :: c :: l => exact h.2
theorem turns_right : ∀ {l : List Pt} {a b : Pt}, (a :: b :: l).Pairwise Down → Turns (a :: b :: l) → ∀ z, z ∈ l → 0 < abv a b z
  | [], _, _, _, _, z, hz => by cases hz
  | c :: l, a, b, hd, ht, z, hz => by
    have d1 := List.pairwise_cons.mp hd
    have d2 := List.pairwise_cons.mp d1.2
    rcases List.mem_cons.mp hz with rfl | hz'
    · exact ht.1
    · exact abv_right (d1.1 b (List.mem_cons_self ..)).1 (d2.1 c (List.mem_cons_self ..)).1 (d2.1 z hz).1 ht.1 (turns_right d1.2 ht.2 z hz')
/-- what stands left of an edge is above it -/
theorem turns_left : ∀ {X : List Pt} {b c : Pt} {Y : List Pt}, (X ++ b :: c :: Y).Pairwise Down → Turns (X ++ b :: c :: Y) → ∀ z, z ∈ X → 0 < abv b c z
  | [], _, _, _, _, _, z, hz => by cases hz
  | [a], b, c, Y, hd, ht, z, hz => by
    cases List.mem_singleton.mp hz
    have d1 := List.pairwise_cons.mp hd
    have d2 := List.pairwise_cons.mp d1.2
    have ab := (d1.1 b (List.mem_cons_self ..)).1
    have bc := (d2.1 c (List.mem_cons_self ..)).1
    have t : 0 < abv a b c := ht.1
    -- three points alone: the first above the line of the others
    rw [abv_mid] at t
    have e : abv b c a = (b.2 - c.2) * (a.1 - b.1) + (c.1 - b.1) * (a.2 - b.2) := rfl
    rw [e]
    have r1 : (b.2 - c.2) * (a.1 - b.1) = (b.1 - a.1) * (c.2 - b.2) := by
      have a1 : b.2 - c.2 = -(c.2 - b.2) := by omega
      have a2 : a.1 - b.1 = -(b.1 - a.1) := by omega
      rw [a1, a2, Int.neg_mul_neg, Int.mul_comm]
    rw [r1, Int.mul_comm (c.1 - b.1)]
    omega
  | a :: a2 :: X, b, c, Y, hd, ht, z, hz => by
    have d1 := List.pairwise_cons.mp hd
    have ht' := Turns.tail ht
    rcases List.mem_cons.mp hz with rfl | hz'
    · -- left of a2: above the line of the two behind it, and so on
      have key : ∀ (W : List Pt) (u v : Pt), 0 < abv u v z → z.1 < u.1 → z.1 < v.1 → (u :: v :: W ++ b :: c :: Y).Pairwise Down → Turns (u :: v :: W ++ b :: c :: Y) → 0 < abv b c z := by
        intro W
        induction W with
        | nil =>
          intro u v h0 h1 h2 hp hT
          have p1 := List.pairwise_cons.mp hp
          have p2 := List.pairwise_cons.mp p1.2
          have p3 := List.pairwise_cons.mp p2.2
          have uv := (p1.1 v (List.mem_cons_self ..)).1
          have vb := (p2.1 b (List.mem_cons_self ..)).1
          have bc := (p3.1 c (List.mem_cons_self ..)).1
          have k1 : 0 < abv v b z := abv_left uv vb h2 hT.1 h0
          exact abv_left vb bc (by omega) hT.2.1 k1
        | cons x W ih =>
          intro u v h0 h1 h2 hp hT
          have p1 := List.pairwise_cons.mp hp
          have p2 := List.pairwise_cons.mp p1.2
          have uv := (p1.1 v (List.mem_cons_self ..)).1
          have vx := (p2.1 x (List.mem_cons_self ..)).1
          exact ih v x (abv_left uv vx h2 hT.1 h0) h2 (by omega) p1.2 hT.2
      cases X with
      | nil =>
        have p2 := List.pairwise_cons.mp d1.2
        have p3 := List.pairwise_cons.mp p2.2
        have za := (d1.1 a2 (List.mem_cons_self ..)).1
        have ab := (p2.1 b (List.mem_cons_self ..)).1
        have bc := (p3.1 c (List.mem_cons_self ..)).1
        have t1 : 0 < abv a2 b z := turns_left (X := [z]) (b := a2) (c := b) (Y := c :: Y) hd ht z (List.mem_cons_self ..)
        exact abv_left ab bc (by omega) ht.2.1 t1
      | cons x X =>
        have p2 := List.pairwise_cons.mp d1.2
        have za := (d1.1 a2 (List.mem_cons_self ..)).1
        have ax := (p2.1 x (List.mem_cons_self ..)).1
        have t1 : 0 < abv a2 x z := turns_left (X := [z]) (b := a2) (c := x) (Y := X ++ b :: c :: Y) hd ht z (List.mem_cons_self ..)
        exact key X a2 x t1 za (by omega) d1.2 ht'
    · exact turns_left d1.2 ht' z hz'
  termination_by X => X.length
/-- each point of a chain that turns is the only least one of it at some prices -/
theorem turns_own {L : List Pt} (hd : L.Pairwise Down) (ht : Turns L) {p : Pt} (hp : p ∈ L) : Cnr (· ∈ L) p := by
  obtain ⟨X, Y, rfl⟩ := List.append_of_mem hp
  -- the two edges at p, or the axes
  have hl : ∃ x y : Int, 0 ≤ x ∧ 0 ≤ y ∧ 0 < x ∧ (∀ z, z ∈ X → vlu x y p ≤ vlu x y z) ∧ (∀ z, z ∈ Y → vlu x y p < vlu x y z) := by
    rcases List.eq_nil_or_concat X with rfl | ⟨X', b, rfl⟩
    · refine ⟨1, 0, by omega, by omega, by omega, fun z h => (nomatch h), fun z h => ?_⟩
      have := ((List.pairwise_cons.mp hd).1 z h).1
      simp only [vlu]; omega
    · rw [List.concat_eq_append] at hd ht ⊢
      rw [List.append_assoc] at hd ht
      have hd : (X' ++ b :: p :: Y).Pairwise Down := hd
      have ht : Turns (X' ++ b :: p :: Y) := ht
      have hbp : Down b p := (List.pairwise_cons.mp (List.pairwise_append.mp hd).2.1).1 p (List.mem_cons_self ..)
      have ht2 : ∀ (W : List Pt), Turns (W ++ (b :: p :: Y)) → Turns (b :: p :: Y) := by
        intro W
        induction W with
        | nil => exact id
        | cons w W ih => exact fun h => ih (Turns.tail h)
      refine ⟨b.2 - p.2, p.1 - b.1, by have := hbp.2; omega, by have := hbp.1; omega, by have := hbp.2; omega, fun z h => ?_, fun z h => ?_⟩
      · have e1 := vlu_abv b p z
        have e2 := vlu_abv b p p
        rw [abv_q] at e2
        rcases List.mem_append.mp h with h | h
        · have := turns_left (X := X') (b := b) (c := p) (Y := Y) hd ht z h; omega
        · cases List.mem_singleton.mp h; rw [abv_p] at e1; omega
      · have e1 := vlu_abv b p z
        have e2 := vlu_abv b p p
        rw [abv_q] at e2
        have := turns_right (List.pairwise_append.mp hd).2.1 (ht2 X' ht) z h
        omega
  have hr : ∃ x y : Int, 0 ≤ x ∧ 0 ≤ y ∧ 0 < y ∧ (∀ z, z ∈ X → vlu x y p < vlu x y z) ∧ (∀ z, z ∈ Y → vlu x y p ≤ vlu x y z) := by
    cases Y with
    | nil =>
      refine ⟨0, 1, by omega, by omega, by omega, fun z h => ?_, fun z h => (nomatch h)⟩
      have := ((List.pairwise_append.mp hd).2.2 z h p (List.mem_cons_self ..)).2
      simp only [vlu]; omega
    | cons e Y =>
      have hpe : Down p e := (List.pairwise_cons.mp (List.pairwise_append.mp hd).2.1).1 e (List.mem_cons_self ..)
      have ht2 : ∀ (W : List Pt), Turns (W ++ (p :: e :: Y)) → Turns (p :: e :: Y) := by
        intro W
        induction W with
        | nil => exact id
        | cons w W ih => exact fun h => ih (Turns.tail h)
      refine ⟨p.2 - e.2, e.1 - p.1, by have := hpe.2; omega, by have := hpe.1; omega, by have := hpe.1; omega, fun z h => ?_, fun z h => ?_⟩
      · have e1 := vlu_abv p e z
        have := turns_left (X := X) (b := p) (c := e) (Y := Y) hd ht z h
        omega
      · have e1 := vlu_abv p e z
        rcases List.mem_cons.mp h with rfl | h
        · rw [abv_q] at e1; omega
        · have := turns_right (List.pairwise_append.mp hd).2.1 (ht2 X ht) z h; omega
  obtain ⟨x, y, x0, y0, x1, l1, l2⟩ := hl
  obtain ⟨u, v, u0, v0, v1, r1, r2⟩ := hr
  refine ⟨x + u, y + v, by omega, by omega, fun q hq ne => ?_⟩
  have e : ∀ z : Pt, vlu (x + u) (y + v) z = vlu x y z + vlu u v z := fun z => by simp only [vlu, Int.add_mul]; omega
  rw [e, e]
  rcases List.mem_append.mp hq with h | h
  · have := l1 q h; have := r1 q h; omega
  · rcases List.mem_cons.mp h with h | h
    · exact absurd h ne
    · have := l2 q h; have := r2 q h; omega
end MB

set_option maxHeartbeats 4000000
namespace MB
/-- what stands on or above the line of two others is no better than one of them -/
theorem seg_dom {b c e : Pt} {x y : Int} (hy : 0 < y) (h1 : b.1 < c.1) (h2 : c.1 < e.1) (h : abv b c e ≤ 0) : vlu x y b ≤ vlu x y c ∨ vlu x y e ≤ vlu x y c := by
  rcases Int.lt_or_le (vlu x y c) (vlu x y b) with g1 | g1
  · rcases Int.lt_or_le (vlu x y c) (vlu x y e) with g2 | g2
    · exfalso
      rw [abv_mid] at h
      have k1 : 0 < y * (b.2 - c.2) - x * (c.1 - b.1) := by simp only [vlu] at g1; simp only [Int.mul_sub]; omega
      have k2 : 0 < y * (e.2 - c.2) + x * (e.1 - c.1) := by simp only [vlu] at g2; simp only [Int.mul_sub]; omega
      have m1 := Int.mul_pos (by omega : 0 < e.1 - c.1) k1
      have m2 := Int.mul_pos (by omega : 0 < c.1 - b.1) k2
      have m3 : y * ((b.2 - c.2) * (e.1 - c.1) + (c.1 - b.1) * (e.2 - c.2)) ≤ 0 := by
        have := Int.mul_le_mul_of_nonneg_left h (by omega : 0 ≤ y)
        rwa [Int.mul_zero] at this
      generalize e.1 - c.1 = E at *
      generalize c.1 - b.1 = B at *
      generalize b.2 - c.2 = b' at *
      generalize e.2 - c.2 = e' at *
      rw [Int.mul_sub] at m1
      rw [Int.mul_add] at m2 m3
      have r1 : E * (y * b') = y * (b' * E) := by rw [Int.mul_left_comm, Int.mul_comm E]
      have r2 : E * (x * B) = B * (x * E) := by rw [Int.mul_left_comm E, Int.mul_left_comm B, Int.mul_comm E]
      have r3 : B * (y * e') = y * (B * e') := Int.mul_left_comm ..
      omega
    · exact .inr g2
  · exact .inl g1
theorem abv_swap (p q z : Pt) : abv p z q = - abv p q z := by
  simp only [abv]
  have e1 : (p.2 - z.2) * (q.1 - p.1) = -((q.1 - p.1) * (z.2 - p.2)) := by
    have : p.2 - z.2 = -(z.2 - p.2) := by omega
    rw [this, Int.neg_mul, Int.mul_comm]
  have e2 : (z.1 - p.1) * (q.2 - p.2) = -((p.2 - q.2) * (z.1 - p.1)) := by
    have : q.2 - p.2 = -(p.2 - q.2) := by omega
    rw [this, Int.mul_neg, Int.mul_comm]
  rw [e1, e2]; omega
theorem abv_cyc (p q z : Pt) : abv z p q = abv p q z := by
  have h1 := abv_mid z p q
  have e1 : (z.2 - p.2) * (q.1 - p.1) = (q.1 - p.1) * (z.2 - p.2) := Int.mul_comm ..
  have e2 : (p.1 - z.1) * (q.2 - p.2) = (p.2 - q.2) * (z.1 - p.1) := by
    have a1 : p.1 - z.1 = -(z.1 - p.1) := by omega
    have a2 : q.2 - p.2 = -(p.2 - q.2) := by omega
    rw [a1, a2, Int.neg_mul_neg, Int.mul_comm]
  rw [h1, e1, e2]; simp only [abv]; omega
theorem Cnr.seg {S : Pt → Prop} {b c e : Pt} (hc : Cnr S c) (hb : S b) (he : S e) (h1 : b.1 < c.1) (h2 : c.1 < e.1) : 0 < abv b c e := by
  rcases Int.lt_or_le 0 (abv b c e) with h | h
  · exact h
  · exfalso
    obtain ⟨x, y, _, hy, hs⟩ := hc
    have n1 := hs b hb fun e => by subst e; omega
    have n2 := hs e he fun e => by subst e; omega
    rcases seg_dom (x := x) hy h1 h2 h with g | g <;> omega
/-- neither below a corner and left of it, nor .. -/
theorem Cnr.not_dom {S : Pt → Prop} {c z : Pt} (hc : Cnr S c) (hz : S z) (ne : z ≠ c) (h1 : z.1 ≤ c.1) : c.2 < z.2 := by
  rcases Int.lt_or_le c.2 z.2 with h | h
  · exact h
  · exfalso
    obtain ⟨x, y, hx, hy, hs⟩ := hc
    have n1 := hs z hz ne
    have m1 := Int.mul_le_mul_of_nonneg_left h1 (by omega : 0 ≤ x)
    have m2 := Int.mul_le_mul_of_nonneg_left h (by omega : 0 ≤ y)
    simp only [vlu] at n1; omega
/-! ### the scan from left to right; what is kept, the newest first -/
def pops (e : Pt) : List Pt → List Pt
  | c :: b :: l => if abv b c e ≤ 0 then pops e (b :: l) else c :: b :: l
  | l => l
def scan (e : Pt) : List Pt → List Pt
  | [] => [e]
  | c :: l => if c.2 ≤ e.2 then c :: l else e :: pops e (c :: l)
def hul (ps : List Pt) : List Pt := (ps.foldl (fun k e => scan e k) []).reverse
def TurnsR : List Pt → Prop
  | c :: b :: a :: l => 0 < abv a b c ∧ TurnsR (b :: a :: l)
  | _ => True
theorem turns_snoc : ∀ {X : List Pt} {b c e : Pt}, Turns (X ++ [b, c]) → 0 < abv b c e → Turns (X ++ [b, c, e])
  | [], b, c, e, _, h => ⟨h, trivial⟩
  | [a], b, c, e, h, h2 => ⟨h.1, h2, trivial⟩
  | a :: a2 :: X, b, c, e, h, h2 => by
    have ih := turns_snoc (X := a2 :: X) (b := b) (c := c) (e := e) (Turns.tail h) h2
    cases X with
    | nil => exact ⟨h.1, ih⟩
    | cons x X => exact ⟨h.1, ih⟩
theorem turns_rev : ∀ {l : List Pt}, TurnsR l → Turns l.reverse
  | [], _ => trivial
  | [a], _ => trivial
  | [b, a], _ => trivial
  | c :: b :: a :: l, h => by
    have ih := turns_rev h.2
    rw [List.reverse_cons, List.reverse_cons, List.append_assoc] at ih
    rw [List.reverse_cons, List.reverse_cons, List.reverse_cons, List.append_assoc, List.append_assoc]
    exact turns_snoc ih h.1
/-- what is kept after some points -/
structure Kept (S : Pt → Prop) (k : List Pt) : Prop where
  sub : ∀ p, p ∈ k → S p
  down : k.Pairwise fun p q => Down q p
  turn : TurnsR k
  dom : ∀ x y : Int, 0 < x → 0 < y → ∀ p, S p → ∃ z, z ∈ k ∧ vlu x y z ≤ vlu x y p
theorem Kept.hul {S : Pt → Prop} {k : List Pt} (h : Kept S k) : Hul S k.reverse := by
  have hd : k.reverse.Pairwise Down := List.pairwise_reverse.mpr h.down
  have ht := turns_rev h.turn
  exact ⟨fun p hp => h.sub p (List.mem_reverse.mp hp), hd.imp fun h => h.1, fun x y hx hy p hp => by
    obtain ⟨z, hz, hl⟩ := h.dom x y hx hy p hp
    exact ⟨z, List.mem_reverse.mpr hz, hl⟩, fun p hp => turns_own hd ht hp⟩
theorem TurnsR.tail {a : Pt} {l : List Pt} (h : TurnsR (a :: l)) : TurnsR l := by
  match l with
  | [] => trivial
  | [b] => trivial
  | b :: c :: l => exact h.2
theorem pops_spec {e : Pt} : ∀ {k : List Pt} {c : Pt}, (c :: k).Pairwise (fun p q => Down q p) → TurnsR (c :: k) → Down c e →
    (∀ p, p ∈ pops e (c :: k) → p ∈ c :: k) ∧ (e :: pops e (c :: k)).Pairwise (fun p q => Down q p) ∧ TurnsR (e :: pops e (c :: k)) ∧
      ∀ x y : Int, 0 < x → 0 < y → ∀ p, p ∈ c :: k → ∃ z, z ∈ e :: pops e (c :: k) ∧ vlu x y z ≤ vlu x y p
  | [], c, hd, ht, hc => by
    refine ⟨fun p h => h, ?_, trivial, fun x y _ _ p h => ⟨p, List.mem_cons_of_mem _ h, Int.le_refl _⟩⟩
    exact List.pairwise_cons.mpr ⟨fun p h => by cases List.mem_singleton.mp h; exact hc, hd⟩
  | b :: k, c, hd, ht, hc => by
    have d1 := List.pairwise_cons.mp hd
    have hbc : Down b c := d1.1 b (List.mem_cons_self ..)
    have hbe : Down b e := ⟨by have := hbc.1; have := hc.1; omega, by have := hbc.2; have := hc.2; omega⟩
    by_cases hf : abv b c e ≤ 0
    · have ep : pops e (c :: b :: k) = pops e (b :: k) := by rw [pops, if_pos hf]
      rw [ep]
      obtain ⟨i1, i2, i3, i4⟩ := pops_spec d1.2 (TurnsR.tail ht) hbe
      refine ⟨fun p h => List.mem_cons_of_mem _ (i1 p h), i2, i3, fun x y hx hy p hp => ?_⟩
      rcases List.mem_cons.mp hp with rfl | hp
      · rcases seg_dom (x := x) hy hbc.1 hc.1 hf with g | g
        · obtain ⟨z, hz, hl⟩ := i4 x y hx hy b (List.mem_cons_self ..)
          exact ⟨z, hz, by omega⟩
        · exact ⟨e, List.mem_cons_self .., g⟩
      · exact i4 x y hx hy p hp
    · have ep : pops e (c :: b :: k) = c :: b :: k := by rw [pops, if_neg hf]
      rw [ep]
      refine ⟨fun p h => h, List.pairwise_cons.mpr ⟨fun p h => ?_, hd⟩, ⟨by omega, ht⟩, fun x y _ _ p h => ⟨p, List.mem_cons_of_mem _ h, Int.le_refl _⟩⟩
      rcases List.mem_cons.mp h with rfl | h
      · exact hc
      · have := d1.1 p h
        exact ⟨by have := this.1; have := hc.1; omega, by have := this.2; have := hc.2; omega⟩
def Lex (p q : Pt) : Prop := p.1 < q.1 ∨ (p.1 = q.1 ∧ p.2 ≤ q.2)
theorem Kept.scan {S : Pt → Prop} {k : List Pt} (h : Kept S k) {e : Pt} (hl : ∀ p, S p → Lex p e) : Kept (fun p => S p ∨ p = e) (scan e k) := by
  cases k with
  | nil =>
    refine ⟨fun p hp => .inr (List.mem_singleton.mp hp), List.pairwise_singleton .., trivial, fun x y hx hy p hp => ?_⟩
    rcases hp with hp | rfl
    · obtain ⟨z, hz, _⟩ := h.dom x y hx hy p hp; cases hz
    · exact ⟨p, List.mem_singleton.mpr rfl, Int.le_refl _⟩
  | cons c l =>
    show Kept _ (if c.2 ≤ e.2 then c :: l else e :: pops e (c :: l))
    have hce := hl c (h.sub c (List.mem_cons_self ..))
    by_cases hc : c.2 ≤ e.2
    · rw [if_pos hc]
      refine ⟨fun p hp => .inl (h.sub p hp), h.down, h.turn, fun x y hx hy p hp => ?_⟩
      rcases hp with hp | rfl
      · exact h.dom x y hx hy p hp
      · refine ⟨c, List.mem_cons_self .., ?_⟩
        have m1 := Int.mul_le_mul_of_nonneg_left (show c.1 ≤ p.1 by rcases hce with h | h <;> omega) (by omega : 0 ≤ x)
        have m2 := Int.mul_le_mul_of_nonneg_left hc (by omega : 0 ≤ y)
        simp only [vlu]; omega
    · rw [if_neg hc]
      have hd : Down c e := ⟨by rcases hce with h | h <;> omega, by omega⟩
      obtain ⟨i1, i2, i3, i4⟩ := pops_spec h.down h.turn hd
      refine ⟨fun p hp => ?_, i2, i3, fun x y hx hy p hp => ?_⟩
      · rcases List.mem_cons.mp hp with rfl | hp
        · exact .inr rfl
        · exact .inl (h.sub p (i1 p hp))
      · rcases hp with hp | rfl
        · obtain ⟨z, hz, g⟩ := h.dom x y hx hy p hp
          obtain ⟨z2, hz2, g2⟩ := i4 x y hx hy z hz
          exact ⟨z2, hz2, by omega⟩
        · exact ⟨p, List.mem_cons_self .., Int.le_refl _⟩
theorem kept_fold : ∀ (ps : List Pt) {S : Pt → Prop} {k : List Pt}, Kept S k → ps.Pairwise Lex → (∀ p, S p → ∀ q, q ∈ ps → Lex p q) → Kept (fun p => S p ∨ p ∈ ps) (ps.foldl (fun k e => scan e k) k)
  | [], S, k, h, _, _ => by
    have : (fun p => S p ∨ p ∈ ([] : List Pt)) = S := by funext p; simp
    rw [this]; exact h
  | e :: ps, S, k, h, hs, hl => by
    have d := List.pairwise_cons.mp hs
    have h1 := h.scan (e := e) fun p hp => hl p hp e (List.mem_cons_self ..)
    have h2 := kept_fold ps h1 d.2 fun p hp q hq => by
      rcases hp with hp | rfl
      · exact hl p hp q (List.mem_cons_of_mem _ hq)
      · exact d.1 q hq
    have : (fun p => S p ∨ p ∈ e :: ps) = fun p => (S p ∨ p = e) ∨ p ∈ ps := by funext p; simp [List.mem_cons, or_assoc]
    rw [this]; exact h2
theorem hul_spec {ps : List Pt} (hs : ps.Pairwise Lex) : Hul (· ∈ ps) (hul ps) := by
  have k0 : Kept (fun _ => False) [] := ⟨fun p h => (nomatch h), List.Pairwise.nil, trivial, fun _ _ _ _ _ h => False.elim h⟩
  have := kept_fold ps k0 hs fun _ h => h.elim
  have e : (fun p => False ∨ p ∈ ps) = (· ∈ ps) := by funext p; simp
  rw [e] at this
  exact this.hul
/-- other points, each no better than some of these, and these among them -/
theorem Hul.more {S S' : Pt → Prop} {L : List Pt} (h : Hul S L) (h1 : ∀ p, S p → S' p) (h2 : ∀ x y : Int, 0 < x → 0 < y → ∀ p, S' p → ∃ q, S q ∧ vlu x y q ≤ vlu x y p) : Hul S' L :=
  ⟨fun p hp => h1 p (h.sub p hp), h.inc, fun x y hx hy p hp => by
    obtain ⟨q, hq, l1⟩ := h2 x y hx hy p hp
    obtain ⟨k, hk, l2⟩ := h.dom x y hx hy q hq
    exact ⟨k, hk, by omega⟩, h.own⟩
/-! ### corners by least work at prices -/
section
variable (be : Int → Int → Pt) (F : Int)
/-- the tilted direction between two points -/
def tiltP (p q : Pt) : Pt := ((p.2 - q.2) * (1 + F) + 1, (q.1 - p.1) * (1 + F))
/-- the loop: what was found, the newest first; what waits, the nearest first; never more than so many -/
inductive SimP (B : Nat) : Nat → List Pt → List Pt → List Pt → Prop
  | done {m : Nat} {fr : List Pt} : fr.length ≤ B → SimP B m fr [] fr.reverse
  | pop {m : Nat} {n w : Pt} {fr ws res : List Pt} : (n :: fr).length + (w :: ws).length ≤ B → be (tiltP F n w).1 (tiltP F n w).2 = n → SimP B m (w :: n :: fr) ws res → SimP B (m + 1) (n :: fr) (w :: ws) res
  | push {m : Nat} {n w : Pt} {fr ws res : List Pt} : (n :: fr).length + (w :: ws).length < B → be (tiltP F n w).1 (tiltP F n w).2 ≠ n → SimP B m (n :: fr) (be (tiltP F n w).1 (tiltP F n w).2 :: w :: ws) res → SimP B (m + 1) (n :: fr) (w :: ws) res
end
/-- the least at any prices, and bounds of all points -/
structure Best (S : Pt → Prop) (be : Int → Int → Pt) (F R : Int) : Prop where
  mem : ∀ x y, 0 < x → 0 < y → S (be x y)
  le : ∀ x y, 0 < x → 0 < y → ∀ z, S z → vlu x y (be x y) ≤ vlu x y z
  b1 : ∀ z, S z → 0 ≤ z.1 ∧ z.1 ≤ F
  b2 : ∀ z, S z → 0 ≤ z.2 ∧ z.2 ≤ R
theorem vlu_tilt (F : Int) (p q z : Pt) : vlu (tiltP F p q).1 (tiltP F p q).2 z = (1 + F) * vlu (p.2 - q.2) (q.1 - p.1) z + z.1 := by
  simp only [vlu, tiltP, Int.add_mul, Int.mul_add, Int.one_mul, Int.sub_mul, Int.mul_sub, Int.mul_one]
  have e : ∀ a b c : Int, a * b * c = b * (a * c) := fun a b c => by rw [Int.mul_assoc, Int.mul_left_comm]
  rw [e p.2, e q.2, e q.1, e p.1]
  omega
/-- scaled values first -/
theorem lex_le {F a b u v : Int} (h : (1 + F) * a + u ≤ (1 + F) * b + v) (hu : 0 ≤ u) (hv : v ≤ F) (hF : 0 ≤ F := by omega) : a ≤ b := by
  rcases Int.lt_or_le b a with g | g
  · exfalso
    have : (1 + F) * (b + 1) ≤ (1 + F) * a := Int.mul_le_mul_of_nonneg_left (by omega) (by omega)
    rw [Int.mul_add, Int.mul_one] at this
    omega
  · exact g
theorem lex_lt {F a b u v : Int} (h : a < b) (hu : 0 ≤ v) (hv : u ≤ F) (hF : 0 ≤ F) : (1 + F) * a + u < (1 + F) * b + v := by
  have : (1 + F) * (a + 1) ≤ (1 + F) * b := Int.mul_le_mul_of_nonneg_left (by omega) (by omega)
  rw [Int.mul_add, Int.mul_one] at this
  omega
section
variable {S : Pt → Prop} {be : Int → Int → Pt} {F R : Int}
theorem Best.tilt (B : Best S be F R) {p q : Pt} (hx : 0 < p.2 - q.2) (hy : 0 < q.1 - p.1) :
    S (be (tiltP F p q).1 (tiltP F p q).2) ∧ Cnr S (be (tiltP F p q).1 (tiltP F p q).2) ∧ ∀ z, S z → vlu (p.2 - q.2) (q.1 - p.1) (be (tiltP F p q).1 (tiltP F p q).2) ≤ vlu (p.2 - q.2) (q.1 - p.1) z ∧
      (vlu (p.2 - q.2) (q.1 - p.1) (be (tiltP F p q).1 (tiltP F p q).2) = vlu (p.2 - q.2) (q.1 - p.1) z → (be (tiltP F p q).1 (tiltP F p q).2).1 ≤ z.1) := by
  have hF : 0 < 1 + F := by
    have m := B.mem 1 1 (by omega) (by omega)
    have := B.b1 _ m; omega
  have t1 : 0 < (tiltP F p q).1 := by
    have := Int.mul_pos hx hF
    simp only [tiltP]; omega
  have t2 : 0 < (tiltP F p q).2 := Int.mul_pos hy hF
  have m := B.mem _ _ t1 t2
  have l := B.le _ _ t1 t2
  have mb := B.b1 _ m
  have base : ∀ z, S z → vlu (p.2 - q.2) (q.1 - p.1) (be (tiltP F p q).1 (tiltP F p q).2) ≤ vlu (p.2 - q.2) (q.1 - p.1) z ∧
      (vlu (p.2 - q.2) (q.1 - p.1) (be (tiltP F p q).1 (tiltP F p q).2) = vlu (p.2 - q.2) (q.1 - p.1) z → (be (tiltP F p q).1 (tiltP F p q).2).1 ≤ z.1) := fun z hz => by
    have h := l z hz
    rw [vlu_tilt, vlu_tilt] at h
    have zb := B.b1 z hz
    refine ⟨lex_le h mb.1 zb.2, fun e => ?_⟩
    rw [e] at h; omega
  refine ⟨m, ⟨_, _, t1, t2, fun z hz ne => ?_⟩, base⟩
  refine Int.lt_iff_le_and_ne.mpr ⟨l z hz, fun e => ne ?_⟩
  rw [vlu_tilt, vlu_tilt] at e
  have zb := B.b1 z hz
  have a1 := lex_le (Int.le_of_eq e) mb.1 zb.2
  have a2 := lex_le (Int.le_of_eq e.symm) zb.1 mb.2
  have e2 : vlu (p.2 - q.2) (q.1 - p.1) (be (tiltP F p q).1 (tiltP F p q).2) = vlu (p.2 - q.2) (q.1 - p.1) z := by omega
  rw [e2] at e
  have e3 : z.1 = (be (tiltP F p q).1 (tiltP F p q).2).1 := by omega
  refine Prod.ext e3 ?_
  simp only [vlu] at e2
  rw [e3] at e2
  have e4 : (q.1 - p.1) * z.2 = (q.1 - p.1) * (be (tiltP F p q).1 (tiltP F p q).2).2 := by simp only [tiltP] at e2 ⊢; omega
  exact Int.eq_of_mul_eq_mul_left (by omega) e4
/-- an edge: nothing is below its line -/
def Edge (S : Pt → Prop) (p q : Pt) : Prop := ∀ z, S z → 0 ≤ abv p q z
/-- what was found, the newest first: edges -/
def Edges (S : Pt → Prop) : List Pt → Prop
  | q :: p :: l => Edge S p q ∧ Edges S (p :: l)
  | _ => True
structure At (S : Pt → Prop) (fr ws : List Pt) : Prop where
  sub : ∀ p, p ∈ fr ++ ws → S p
  cnr : ∀ p, p ∈ fr ++ ws → Cnr S p
  inc : (fr.reverse ++ ws).Pairwise fun p q => p.1 < q.1
  edg : Edges S fr
  fst : ∀ z, S z → ∃ p, p ∈ fr ∧ p.1 ≤ z.1 ∧ (p.1 = z.1 → p.2 ≤ z.2)
  lst : ∀ z, S z → ∃ q, (fr.reverse ++ ws).getLast? = some q ∧ q.2 ≤ z.2
/-- among edges found: what is between two, is above -/
theorem edges_dom {S : Pt → Prop} {z : Pt} (hz : S z) {x y : Int} (hx : 0 < x) (hy : 0 < y) : ∀ {fr : List Pt} {q : Pt}, Edges S (q :: fr) → (q :: fr).Pairwise (fun p q => q.1 < p.1) → z.1 ≤ q.1 → (z.1 = q.1 → q.2 ≤ z.2) →
    (∃ p, p ∈ q :: fr ∧ p.1 ≤ z.1 ∧ (p.1 = z.1 → p.2 ≤ z.2)) → ∃ k, k ∈ q :: fr ∧ vlu x y k ≤ vlu x y z
  | [], q, _, _, h1, h2, ⟨p, hp, l1, l2⟩ => by
    cases List.mem_singleton.mp hp
    refine ⟨q, List.mem_cons_self .., ?_⟩
    have e : q.1 = z.1 := by omega
    have m2 := Int.mul_le_mul_of_nonneg_left (h2 e.symm) (by omega : 0 ≤ y)
    simp only [vlu]; rw [e]; omega
  | p :: fr, q, hE, hs, h1, h2, hf => by
    have d1 := List.pairwise_cons.mp hs
    have pq : p.1 < q.1 := d1.1 p (List.mem_cons_self ..)
    have dom : ∀ k : Pt, k.1 ≤ z.1 → k.2 ≤ z.2 → vlu x y k ≤ vlu x y z := fun k a b => by
      have m1 := Int.mul_le_mul_of_nonneg_left a (by omega : 0 ≤ x)
      have m2 := Int.mul_le_mul_of_nonneg_left b (by omega : 0 ≤ y)
      simp only [vlu]; omega
    have hab := hE.1 z hz
    by_cases e : z.1 = q.1
    · exact ⟨q, List.mem_cons_self .., dom q (by omega) (h2 e)⟩
    · have epz : z.1 = p.1 → p.2 ≤ z.2 := fun e2 => by
        simp only [abv, e2, Int.sub_self, Int.mul_zero, Int.zero_add] at hab
        rcases Int.lt_or_le z.2 p.2 with g | g
        · exfalso
          have := Int.mul_pos (by omega : 0 < q.1 - p.1) (by omega : 0 < p.2 - z.2)
          have e3 : p.2 - z.2 = -(z.2 - p.2) := by omega
          rw [e3, Int.mul_neg] at this; omega
        · exact g
      rcases Int.lt_or_le p.1 z.1 with g | g
      · have sd := seg_dom (b := p) (c := z) (e := q) (x := x) hy g (by omega) (by rw [abv_swap]; omega)
        rcases sd with s | s
        · exact ⟨p, List.mem_cons_of_mem _ (List.mem_cons_self ..), s⟩
        · exact ⟨q, List.mem_cons_self .., s⟩
      · have hf' : ∃ k, k ∈ p :: fr ∧ k.1 ≤ z.1 ∧ (k.1 = z.1 → k.2 ≤ z.2) := by
          obtain ⟨k, hk, l1, l2⟩ := hf
          rcases List.mem_cons.mp hk with rfl | hk
          · omega
          · exact ⟨k, hk, l1, l2⟩
        obtain ⟨k, hk, l⟩ := edges_dom hz hx hy hE.2 d1.2 g epz hf'
        exact ⟨k, List.mem_cons_of_mem _ hk, l⟩
theorem At.done {fr : List Pt} {q : Pt} (h : At S (q :: fr) []) : Hul S (q :: fr).reverse := by
  have hi : (q :: fr).reverse.Pairwise fun p q => p.1 < q.1 := by have := h.inc; rwa [List.append_nil] at this
  have hr : (q :: fr).Pairwise fun p q => q.1 < p.1 := by
    have := List.pairwise_reverse.mpr hi
    rwa [List.reverse_reverse] at this
  refine ⟨fun p hp => h.sub p (by rw [List.append_nil]; exact List.mem_reverse.mp hp), hi, fun x y hx hy z hz => ?_, fun p hp => ?_⟩
  · obtain ⟨q', e, hq⟩ := h.lst z hz
    rw [List.append_nil, List.getLast?_reverse] at e
    cases e
    rcases Int.lt_or_le q.1 z.1 with g | g
    · refine ⟨q, by simp, ?_⟩
      have m1 := Int.mul_le_mul_of_nonneg_left (Int.le_of_lt g) (by omega : 0 ≤ x)
      have m2 := Int.mul_le_mul_of_nonneg_left hq (by omega : 0 ≤ y)
      simp only [vlu]; omega
    · obtain ⟨k, hk, l⟩ := edges_dom hz hx hy h.edg hr g (fun _ => hq) (h.fst z hz)
      exact ⟨k, List.mem_reverse.mpr hk, l⟩
  · obtain ⟨x, y, hx, hy, hs⟩ := h.cnr p (by rw [List.append_nil]; exact List.mem_reverse.mp hp)
    exact ⟨x, y, hx, hy, fun z hz ne => hs z (h.sub z (by rw [List.append_nil]; exact List.mem_reverse.mp hz)) ne⟩
/-- how far the last of a list is -/
def lastW (d : Int) (ws : List Pt) : Int := match ws.getLast? with | some q => q.1 | none => d
/-- no more than so many points go right -/
def Cap (S : Pt → Prop) (B : Nat) : Prop := ∀ l : List Pt, l.Pairwise (fun p q => p.1 < q.1) → (∀ p, p ∈ l → S p) → l.length ≤ B
theorem At.cap {c : Nat} (hc : Cap S c) {fr ws : List Pt} (h : At S fr ws) : fr.length + ws.length ≤ c := by
  have := hc _ h.inc fun p hp => h.sub p (by simpa using hp)
  rw [List.length_append, List.length_reverse] at this
  exact this
theorem sim_ends (B : Best S be F R) {c : Nat} (hc : Cap S c) : ∀ (m : Nat) {fr ws : List Pt} {p : Pt}, At S (p :: fr) ws → 2 * (lastW p.1 ws - p.1) - (ws.length : Int) ≤ m → ∃ res, SimP be F c m (p :: fr) ws res ∧ Hul S res
  | m, fr, [], p, h, _ => ⟨(p :: fr).reverse, .done (by have := h.cap hc; simpa using this), h.done⟩
  | m, fr, w :: ws, p, h, hm => by
    have hin := h.inc
    rw [List.reverse_cons, List.append_assoc] at hin
    have ha := (List.pairwise_append.mp hin).2.1
    have hpw := List.pairwise_cons.mp ha
    have hw := List.pairwise_cons.mp hpw.2
    have pw : p.1 < w.1 := hpw.1 w (List.mem_cons_self ..)
    have hlen : ∀ (l : List Pt) (d : Pt), (d :: l).Pairwise (fun p q => p.1 < q.1) → (l.length : Int) ≤ lastW d.1 (d :: l) - d.1 := by
      intro l
      induction l with
      | nil => intro d _; simp [lastW]
      | cons x l ih =>
        intro d hd
        have h1 := List.pairwise_cons.mp hd
        have h2 := ih x h1.2
        have h3 := h1.1 x (List.mem_cons_self ..)
        have e : lastW d.1 (d :: x :: l) = lastW x.1 (x :: l) := by simp [lastW, List.getLast?_cons_cons, List.getLast?_cons]
        rw [e, List.length_cons]
        omega
    have hlw := hlen ws w hpw.2
    have elw : lastW p.1 (w :: ws) = lastW w.1 (w :: ws) := by simp [lastW, List.getLast?_cons]
    have elw2 : lastW w.1 ws = lastW w.1 (w :: ws) := by
      cases ws with
      | nil => simp [lastW]
      | cons x ws => simp [lastW, List.getLast?_cons_cons, List.getLast?_cons]
    rw [elw, List.length_cons] at hm
    cases m with
    | zero => exfalso; omega
    | succ m =>
      have Sp := h.sub p (by simp)
      have Sw := h.sub w (by simp)
      have Cp := h.cnr p (by simp)
      have Cw := h.cnr w (by simp)
      have hx : 0 < p.2 - w.2 := by
        have := Cw.not_dom Sp (fun e => by subst e; omega) (by omega); omega
      have hy : 0 < w.1 - p.1 := by omega
      obtain ⟨Sb, Cb, hb⟩ := B.tilt hx hy
      have hcap := h.cap hc
      by_cases e : be (tiltP F p w).1 (tiltP F p w).2 = p
      · have e0 := e
        rw [e] at hb
        have hA : At S (w :: p :: fr) ws := by
          refine ⟨fun z hz => h.sub z ?_, fun z hz => h.cnr z ?_, ?_, ⟨fun z hz => ?_, h.edg⟩, fun z hz => ?_, fun z hz => ?_⟩
          · simp only [List.mem_append, List.mem_cons] at hz ⊢; rcases hz with (h | h | h) | h <;> simp [h]
          · simp only [List.mem_append, List.mem_cons] at hz ⊢; rcases hz with (h | h | h) | h <;> simp [h]
          · have := h.inc
            rw [List.reverse_cons, List.append_assoc]; exact this
          · have := (hb z hz).1
            have e2 := vlu_abv p w z
            omega
          · obtain ⟨k, hk, l⟩ := h.fst z hz
            exact ⟨k, List.mem_cons_of_mem _ hk, l⟩
          · have := h.lst z hz
            rw [List.reverse_cons, List.append_assoc]; exact this
        obtain ⟨res, r1, r2⟩ := sim_ends B hc m hA (by rw [elw2]; omega)
        exact ⟨res, .pop hcap e0 r1, r2⟩
      · generalize hbe : be (tiltP F p w).1 (tiltP F p w).2 = b at *
        have l1 := hb p Sp
        have l2 := hb w Sw
        have q1 := vlu_abv p w b
        have q2 := vlu_abv p w w
        rw [abv_q] at q2
        have nl : ¬ b.1 ≤ p.1 := fun g => by
          rcases Int.lt_or_le b.1 p.1 with g1 | g1
          · have := Cp.seg Sb Sw g1 pw
            rw [abv_cyc] at this
            have := l1.1; omega
          · have := Cp.not_dom Sb e g
            have eb : b.1 = p.1 := by omega
            have q3 : abv p w b = (w.1 - p.1) * (b.2 - p.2) := by simp only [abv, eb, Int.sub_self, Int.mul_zero, Int.zero_add]
            have := Int.mul_pos hy (by omega : 0 < b.2 - p.2)
            have := l1.1; omega
        have lt : abv p w b < 0 := by
          rcases Int.lt_or_le (abv p w b) 0 with g | g
          · exact g
          · exfalso
            have := l1.1
            have := l1.2 (by omega)
            omega
        have nr : ¬ w.1 ≤ b.1 := fun g => by
          rcases Int.lt_or_le w.1 b.1 with g1 | g1
          · have := Cw.seg Sp Sb pw g1; omega
          · have eb : b.1 = w.1 := by omega
            have ne : b ≠ w := fun e => by rw [e, abv_q] at lt; omega
            have := Cw.not_dom Sb ne (by omega)
            have q3 : abv p w b = (w.1 - p.1) * (b.2 - w.2) := by rw [abv_mid]; simp only [eb, Int.sub_self, Int.mul_zero, Int.zero_add]
            have := Int.mul_pos hy (by omega : 0 < b.2 - w.2)
            omega
        have hA : At S (p :: fr) (b :: w :: ws) := by
          refine ⟨fun z hz => ?_, fun z hz => ?_, ?_, h.edg, h.fst, fun z hz => ?_⟩
          · by_cases eb : z = b
            · rw [eb]; exact Sb
            · refine h.sub z ?_
              simp only [List.mem_append, List.mem_cons] at hz ⊢
              rcases hz with (h | h) | h | h | h <;> simp [h] at eb ⊢
          · by_cases eb : z = b
            · rw [eb]; exact Cb
            · refine h.cnr z ?_
              simp only [List.mem_append, List.mem_cons] at hz ⊢
              rcases hz with (h | h) | h | h | h <;> simp [h] at eb ⊢
          · have hp := List.pairwise_append.mp h.inc
            refine List.pairwise_append.mpr ⟨hp.1, List.pairwise_cons.mpr ⟨fun z hz => ?_, hp.2.1⟩, fun a ha c hc => ?_⟩
            · rcases List.mem_cons.mp hz with rfl | hz
              · omega
              · have := hw.1 z hz; omega
            · rcases List.mem_cons.mp hc with rfl | hc
              · rw [List.mem_reverse] at ha
                rcases List.mem_cons.mp ha with rfl | ha
                · omega
                · have := (List.pairwise_append.mp hin).2.2 a (List.mem_reverse.mpr ha) p (List.mem_cons_self ..)
                  omega
              · exact hp.2.2 a ha c hc
          · obtain ⟨k, hk, l⟩ := h.lst z hz
            refine ⟨k, ?_, l⟩
            rw [List.getLast?_append] at hk ⊢
            rw [List.getLast?_cons_cons]
            exact hk
        have hcap2 := hA.cap hc
        have hm2 : 2 * (lastW p.1 (b :: w :: ws) - p.1) - ((b :: w :: ws).length : Int) ≤ m := by
            have e3 : lastW p.1 (b :: w :: ws) = lastW w.1 (w :: ws) := by simp [lastW, List.getLast?_cons_cons, List.getLast?_cons]
            rw [e3, List.length_cons, List.length_cons]
            omega
        obtain ⟨res, r1, r2⟩ := sim_ends B hc m hA hm2
        refine ⟨res, .push (by simp only [List.length_cons] at hcap2 ⊢; omega) (by rw [hbe]; exact e) (by rw [hbe]; exact r1), r2⟩
  termination_by m => m
/-- what the corners are: one alone, or the end of the loop -/
def CrnP (be : Int → Int → Pt) (F R : Int) (B m : Nat) (res : List Pt) : Prop :=
  (be (2 + R) 1 = be 1 (2 + F) ∧ res = [be (2 + R) 1]) ∨ (be (2 + R) 1 ≠ be 1 (2 + F) ∧ SimP be F B m [be (2 + R) 1] [be 1 (2 + F)] res)
theorem crn_ends (B : Best S be F R) {c : Nat} (hc : Cap S c) (hS : ∃ z, S z) {m : Nat} (hm : 2 * F ≤ m) : ∃ res, CrnP be F R c m res ∧ Hul S res := by
  obtain ⟨z0, hz0⟩ := hS
  have hF : 0 ≤ F := by have := B.b1 z0 hz0; omega
  have hR : 0 ≤ R := by have := B.b2 z0 hz0; omega
  have m1 := B.mem (2 + R) 1 (by omega) (by omega)
  have m2 := B.mem 1 (2 + F) (by omega) (by omega)
  have f1 : ∀ z, S z → (be (2 + R) 1).1 ≤ z.1 ∧ ((be (2 + R) 1).1 = z.1 → (be (2 + R) 1).2 ≤ z.2) := fun z hz => by
    have l := B.le (2 + R) 1 (by omega) (by omega) z hz
    have b := B.b2 z hz
    have b' := B.b2 _ m1
    simp only [vlu, Int.one_mul, Int.add_mul] at l
    have l' : (1 + (1 + R)) * (be (2 + R) 1).1 + (be (2 + R) 1).2 ≤ (1 + (1 + R)) * z.1 + z.2 := by simp only [Int.add_mul, Int.one_mul]; omega
    exact ⟨lex_le l' b'.1 (by omega), fun e => by rw [e] at l'; omega⟩
  have f2 : ∀ z, S z → (be 1 (2 + F)).2 ≤ z.2 ∧ ((be 1 (2 + F)).2 = z.2 → (be 1 (2 + F)).1 ≤ z.1) := fun z hz => by
    have l := B.le 1 (2 + F) (by omega) (by omega) z hz
    have b := B.b1 z hz
    have b' := B.b1 _ m2
    simp only [vlu, Int.one_mul, Int.add_mul] at l
    have l' : (1 + (1 + F)) * (be 1 (2 + F)).2 + (be 1 (2 + F)).1 ≤ (1 + (1 + F)) * z.2 + z.1 := by simp only [Int.add_mul, Int.one_mul]; omega
    exact ⟨lex_le l' b'.1 (by omega), fun e => by rw [e] at l'; omega⟩
  have c1 : Cnr S (be (2 + R) 1) := ⟨2 + R, 1, by omega, by omega, fun z hz ne => by
    refine Int.lt_iff_le_and_ne.mpr ⟨B.le _ _ (by omega) (by omega) z hz, fun e => ne ?_⟩
    have b := B.b2 z hz
    have b' := B.b2 _ m1
    simp only [vlu, Int.one_mul, Int.add_mul] at e
    have l' : (1 + (1 + R)) * z.1 + z.2 ≤ (1 + (1 + R)) * (be (2 + R) 1).1 + (be (2 + R) 1).2 := by simp only [Int.add_mul, Int.one_mul]; omega
    have a := lex_le l' b.1 (by omega)
    have a2 := f1 z hz
    have e1 : z.1 = (be (2 + R) 1).1 := by omega
    rw [e1] at e
    exact Prod.ext e1 (by omega)⟩
  have c2 : Cnr S (be 1 (2 + F)) := ⟨1, 2 + F, by omega, by omega, fun z hz ne => by
    refine Int.lt_iff_le_and_ne.mpr ⟨B.le _ _ (by omega) (by omega) z hz, fun e => ne ?_⟩
    have b := B.b1 z hz
    have b' := B.b1 _ m2
    simp only [vlu, Int.one_mul, Int.add_mul] at e
    have l' : (1 + (1 + F)) * z.2 + z.1 ≤ (1 + (1 + F)) * (be 1 (2 + F)).2 + (be 1 (2 + F)).1 := by simp only [Int.add_mul, Int.one_mul]; omega
    have a := lex_le l' b.1 (by omega)
    have a2 := f2 z hz
    have e1 : z.2 = (be 1 (2 + F)).2 := by omega
    rw [e1] at e
    exact Prod.ext (by omega) e1⟩
  by_cases e : be (2 + R) 1 = be 1 (2 + F)
  · refine ⟨_, .inl ⟨e, rfl⟩, fun p hp => by cases List.mem_singleton.mp hp; exact m1, List.pairwise_singleton .., fun x y hx hy z hz => ⟨_, List.mem_singleton.mpr rfl, ?_⟩, fun p hp => ?_⟩
    · have a1 := (f1 z hz).1
      have a2 := (f2 z hz).1
      rw [← e] at a2
      have m1 := Int.mul_le_mul_of_nonneg_left a1 (by omega : 0 ≤ x)
      have m2 := Int.mul_le_mul_of_nonneg_left a2 (by omega : 0 ≤ y)
      simp only [vlu]; omega
    · cases List.mem_singleton.mp hp
      exact ⟨1, 1, by omega, by omega, fun q hq ne => absurd (List.mem_singleton.mp hq) ne⟩
  · have lt : (be (2 + R) 1).1 < (be 1 (2 + F)).1 := by
      have a1 := f1 _ m2
      have a2 := f2 _ m1
      refine Int.lt_iff_le_and_ne.mpr ⟨a1.1, fun h => e (Prod.ext h ?_)⟩
      have := a1.2 h
      omega
    have hq : ∃ res, SimP be F c m [be (2 + R) 1] [be 1 (2 + F)] res ∧ Hul S res := by
      refine sim_ends B hc m ⟨fun p hp => ?_, fun p hp => ?_, ?_, trivial, fun z hz => ⟨_, List.mem_singleton.mpr rfl, f1 z hz⟩, fun z hz => ⟨_, rfl, (f2 z hz).1⟩⟩ ?_
      · rcases List.mem_cons.mp hp with rfl | hp
        · exact m1
        · cases List.mem_singleton.mp hp; exact m2
      · rcases List.mem_cons.mp hp with rfl | hp
        · exact c1
        · cases List.mem_singleton.mp hp; exact c2
      · exact List.pairwise_cons.mpr ⟨fun p hp => by cases List.mem_singleton.mp hp; exact lt, List.pairwise_singleton ..⟩
      · have b1 := B.b1 _ m1
        have b2 := B.b1 _ m2
        simp only [lastW, List.getLast?_singleton, List.length_singleton]
        omega
    obtain ⟨res, r1, r2⟩ := hq
    exact ⟨res, .inr ⟨e, r1⟩, r2⟩
end
end MB

set_option maxHeartbeats 4000000
namespace MB
open PySem PySem.Spec PyProof.Rows L2
def topS (i : Nat) : Stmt := PySem.Challenge.pw_mergebudget_k84_whole_mirrored_problems.main.body.getD i (.Pass ⟨0, 0, 0, 0⟩)
abbrev s_is_int : Stmt := topS 9
abbrev N_is_int : List Str := ["value"]
theorem sc_is_int : FnScope N_is_int ["value"] (defScope s_is_int) := ⟨rfl, rfl, rfl, by decide +kernel, rfl, by decide +kernel, by decide +kernel⟩
abbrev s_is_count : Stmt := topS 10
abbrev N_is_count : List Str := ["value"]
theorem sc_is_count : FnScope N_is_count ["value"] (defScope s_is_count) := ⟨rfl, rfl, rfl, by decide +kernel, rfl, by decide +kernel, by decide +kernel⟩
abbrev s_is_count_up_to : Stmt := topS 11
abbrev N_is_count_up_to : List Str := ["value", "most"]
theorem sc_is_count_up_to : FnScope N_is_count_up_to ["value", "most"] (defScope s_is_count_up_to) := ⟨rfl, rfl, rfl, by decide +kernel, rfl, by decide +kernel, by decide +kernel⟩
abbrev s_check_budgets : Stmt := topS 12
abbrev N_check_budgets : List Str := ["k", "c", "most", "budget"]
theorem sc_check_budgets : FnScope N_check_budgets ["k", "c", "most"] (defScope s_check_budgets) := ⟨rfl, rfl, rfl, by decide +kernel, rfl, by decide +kernel, by decide +kernel⟩
abbrev s_are_loads : Stmt := topS 13
abbrev N_are_loads : List Str := ["value", "fewest", "most", "load"]
theorem sc_are_loads : FnScope N_are_loads ["value", "fewest", "most"] (defScope s_are_loads) := ⟨rfl, rfl, rfl, by decide +kernel, rfl, by decide +kernel, by decide +kernel⟩
abbrev s_check_sizes : Stmt := topS 14
abbrev N_check_sizes : List Str := ["sizes", "fewest", "most"]
theorem sc_check_sizes : FnScope N_check_sizes ["sizes", "fewest", "most"] (defScope s_check_sizes) := ⟨rfl, rfl, rfl, by decide +kernel, rfl, by decide +kernel, by decide +kernel⟩
abbrev s_check_reads : Stmt := topS 15
abbrev N_check_reads : List Str := ["reads", "flushes"]
theorem sc_check_reads : FnScope N_check_reads ["reads", "flushes"] (defScope s_check_reads) := ⟨rfl, rfl, rfl, by decide +kernel, rfl, by decide +kernel, by decide +kernel⟩
abbrev s_check_loads : Stmt := topS 16
abbrev N_check_loads : List Str := ["sizes", "reads", "most"]
theorem sc_check_loads : FnScope N_check_loads ["sizes", "reads", "most"] (defScope s_check_loads) := ⟨rfl, rfl, rfl, by decide +kernel, rfl, by decide +kernel, by decide +kernel⟩
abbrev s_is_schedule : Stmt := topS 19
abbrev N_is_schedule : List Str := ["value", "runs", "merge"]
theorem sc_is_schedule : FnScope N_is_schedule ["value"] (defScope s_is_schedule) := ⟨rfl, rfl, rfl, by decide +kernel, rfl, by decide +kernel, by decide +kernel⟩
abbrev s_stacks : Stmt := topS 20
abbrev N_stacks : List Str := ["schedule", "stack", "result", "flush", "merge"]
theorem sc_stacks : FnScope N_stacks ["schedule"] (defScope s_stacks) := ⟨rfl, rfl, rfl, by decide +kernel, rfl, by decide +kernel, by decide +kernel⟩
abbrev s_stack_after : Stmt := topS 21
abbrev N_stack_after : List Str := ["stack", "flush", "merge", "kept", "start"]
theorem sc_stack_after : FnScope N_stack_after ["stack", "flush", "merge"] (defScope s_stack_after) := ⟨rfl, rfl, rfl, by decide +kernel, rfl, by decide +kernel, by decide +kernel⟩
abbrev s_writes : Stmt := topS 22
abbrev N_writes : List Str := ["schedule", "history", "counts", "stack", "start", "stop", "flush"]
theorem sc_writes : FnScope N_writes ["schedule"] (defScope s_writes) := ⟨rfl, rfl, rfl, by decide +kernel, rfl, by decide +kernel, by decide +kernel⟩
abbrev s_run_counts : Stmt := topS 23
abbrev N_run_counts : List Str := ["schedule", "stack"]
theorem sc_run_counts : FnScope N_run_counts ["schedule"] (defScope s_run_counts) := ⟨rfl, rfl, rfl, by decide +kernel, rfl, by decide +kernel, by decide +kernel⟩
abbrev s_runs_at_end : Stmt := topS 24
abbrev N_runs_at_end : List Str := ["schedule"]
theorem sc_runs_at_end : FnScope N_runs_at_end ["schedule"] (defScope s_runs_at_end) := ⟨rfl, rfl, rfl, by decide +kernel, rfl, by decide +kernel, by decide +kernel⟩
abbrev s_least_work : Stmt := topS 26
abbrev N_least_work : List Str := ["sizes", "reads"]
theorem sc_least_work : FnScope N_least_work ["sizes", "reads"] (defScope s_least_work) := ⟨rfl, rfl, rfl, by decide +kernel, rfl, by decide +kernel, by decide +kernel⟩
abbrev s_least_of : Stmt := topS 27
abbrev N_least_of : List Str := ["sizes", "reads", "rows"]
theorem sc_least_of : FnScope N_least_of ["sizes", "reads"] (defScope s_least_of) := ⟨rfl, rfl, rfl, by decide +kernel, rfl, by decide +kernel, by decide +kernel⟩
abbrev s_least_rows : Stmt := topS 28
abbrev N_least_rows : List Str := ["sizes", "reads", "n", "sums", "rows", "start", "stop", "row"]
theorem sc_least_rows : FnScope N_least_rows ["sizes", "reads"] (defScope s_least_rows) := ⟨rfl, rfl, rfl, by decide +kernel, rfl, by decide +kernel, by decide +kernel⟩
abbrev s_load_sums : Stmt := topS 29
abbrev N_load_sums : List Str := ["sizes", "reads"]
theorem sc_load_sums : FnScope N_load_sums ["sizes", "reads"] (defScope s_load_sums) := ⟨rfl, rfl, rfl, by decide +kernel, rfl, by decide +kernel, by decide +kernel⟩
abbrev s_running_sums : Stmt := topS 30
abbrev N_running_sums : List Str := ["loads", "sums", "load"]
theorem sc_running_sums : FnScope N_running_sums ["loads"] (defScope s_running_sums) := ⟨rfl, rfl, rfl, by decide +kernel, rfl, by decide +kernel, by decide +kernel⟩
abbrev s_works_by_root : Stmt := topS 31
abbrev N_works_by_root : List Str := ["lefts", "rights", "sums", "start", "stop", "found", "root", "left", "right"]
theorem sc_works_by_root : FnScope N_works_by_root ["lefts", "rights", "sums", "start", "stop"] (defScope s_works_by_root) := ⟨rfl, rfl, rfl, by decide +kernel, rfl, by decide +kernel, by decide +kernel⟩
abbrev s_root_cost : Stmt := topS 32
abbrev N_root_cost : List Str := ["sums", "start", "stop", "root", "sizes", "reads"]
theorem sc_root_cost : FnScope N_root_cost ["sums", "start", "stop", "root"] (defScope s_root_cost) := ⟨rfl, rfl, rfl, by decide +kernel, rfl, by decide +kernel, by decide +kernel⟩
abbrev s_schedule_in_optimum : Stmt := topS 33
abbrev N_schedule_in_optimum : List Str := ["rows", "sums", "start", "stop", "root"]
theorem sc_schedule_in_optimum : FnScope N_schedule_in_optimum ["rows", "sums", "start", "stop"] (defScope s_schedule_in_optimum) := ⟨rfl, rfl, rfl, by decide +kernel, rfl, by decide +kernel, by decide +kernel⟩
abbrev s_least_root : Stmt := topS 35
abbrev N_least_root : List Str := ["lefts", "rights", "sums", "start", "stop"]
theorem sc_least_root : FnScope N_least_root ["lefts", "rights", "sums", "start", "stop"] (defScope s_least_root) := ⟨rfl, rfl, rfl, by decide +kernel, rfl, by decide +kernel, by decide +kernel⟩
abbrev s_joined : Stmt := topS 36
abbrev N_joined : List Str := ["left", "right"]
theorem sc_joined : FnScope N_joined ["left", "right"] (defScope s_joined) := ⟨rfl, rfl, rfl, by decide +kernel, rfl, by decide +kernel, by decide +kernel⟩
abbrev s_least_work_within : Stmt := topS 40
abbrev N_least_work_within : List Str := ["sizes", "reads", "k", "c", "tables", "least"]
theorem sc_least_work_within : FnScope N_least_work_within ["sizes", "reads", "k", "c"] (defScope s_least_work_within) := ⟨rfl, rfl, rfl, by decide +kernel, rfl, by decide +kernel, by decide +kernel⟩
abbrev s_check_arguments : Stmt := topS 41
abbrev N_check_arguments : List Str := ["sizes", "reads", "k", "c"]
theorem sc_check_arguments : FnScope N_check_arguments ["sizes", "reads", "k", "c"] (defScope s_check_arguments) := ⟨rfl, rfl, rfl, by decide +kernel, rfl, by decide +kernel, by decide +kernel⟩
abbrev s_least_tables : Stmt := topS 42
abbrev N_least_tables : List Str := ["sizes", "reads", "k", "c", "n", "sums", "tables", "b", "a", "row"]
theorem sc_least_tables : FnScope N_least_tables ["sizes", "reads", "k", "c"] (defScope s_least_tables) := ⟨rfl, rfl, rfl, by decide +kernel, rfl, by decide +kernel, by decide +kernel⟩
abbrev s_rows_without_trees : Stmt := topS 43
abbrev N_rows_without_trees : List Str := ["n", "start"]
theorem sc_rows_without_trees : FnScope N_rows_without_trees ["n"] (defScope s_rows_without_trees) := ⟨rfl, rfl, rfl, by decide +kernel, rfl, by decide +kernel, by decide +kernel⟩
abbrev s_rows_over : Stmt := topS 44
abbrev N_rows_over : List Str := ["lefts", "rights", "sums", "n", "rows", "start", "row", "stop", "least", "root"]
theorem sc_rows_over : FnScope N_rows_over ["lefts", "rights", "sums", "n"] (defScope s_rows_over) := ⟨rfl, rfl, rfl, by decide +kernel, rfl, by decide +kernel, by decide +kernel⟩
abbrev s_schedule_in_bounded : Stmt := topS 45
abbrev N_schedule_in_bounded : List Str := ["tables", "sums", "b", "a", "start", "stop", "root", "left"]
theorem sc_schedule_in_bounded : FnScope N_schedule_in_bounded ["tables", "sums", "b", "a", "start", "stop"] (defScope s_schedule_in_bounded) := ⟨rfl, rfl, rfl, by decide +kernel, rfl, by decide +kernel, by decide +kernel⟩
abbrev s_write_work : Stmt := topS 48
abbrev N_write_work : List Str := ["schedule", "sizes", "counts"]
theorem sc_write_work : FnScope N_write_work ["schedule", "sizes"] (defScope s_write_work) := ⟨rfl, rfl, rfl, by decide +kernel, rfl, by decide +kernel, by decide +kernel⟩
abbrev s_weighted : Stmt := topS 49
abbrev N_weighted : List Str := ["loads", "counts", "load", "count"]
theorem sc_weighted : FnScope N_weighted ["loads", "counts"] (defScope s_weighted) := ⟨rfl, rfl, rfl, by decide +kernel, rfl, by decide +kernel, by decide +kernel⟩
abbrev s_read_work : Stmt := topS 50
abbrev N_read_work : List Str := ["schedule", "reads", "counts"]
theorem sc_read_work : FnScope N_read_work ["schedule", "reads"] (defScope s_read_work) := ⟨rfl, rfl, rfl, by decide +kernel, rfl, by decide +kernel, by decide +kernel⟩
abbrev s_work : Stmt := topS 51
abbrev N_work : List Str := ["schedule", "sizes", "reads"]
theorem sc_work : FnScope N_work ["schedule", "sizes", "reads"] (defScope s_work) := ⟨rfl, rfl, rfl, by decide +kernel, rfl, by decide +kernel, by decide +kernel⟩
abbrev s_corners : Stmt := topS 54
abbrev N_corners : List Str := ["sizes", "reads", "point", "schedule"]
theorem sc_corners : FnScope N_corners ["sizes", "reads"] (defScope s_corners) := ⟨rfl, rfl, rfl, by decide +kernel, rfl, by decide +kernel, by decide +kernel⟩
abbrev s_corners_with_schedules : Stmt := topS 55
abbrev N_corners_with_schedules : List Str := ["sizes", "reads", "first", "last", "found", "waiting", "nearest", "between"]
theorem sc_corners_with_schedules : FnScope N_corners_with_schedules ["sizes", "reads"] (defScope s_corners_with_schedules) := ⟨rfl, rfl, rfl, by decide +kernel, rfl, by decide +kernel, by decide +kernel⟩
abbrev s_first_direction : Stmt := topS 56
abbrev N_first_direction : List Str := ["reads"]
theorem sc_first_direction : FnScope N_first_direction ["reads"] (defScope s_first_direction) := ⟨rfl, rfl, rfl, by decide +kernel, rfl, by decide +kernel, by decide +kernel⟩
abbrev s_last_direction : Stmt := topS 57
abbrev N_last_direction : List Str := ["sizes"]
theorem sc_last_direction : FnScope N_last_direction ["sizes"] (defScope s_last_direction) := ⟨rfl, rfl, rfl, by decide +kernel, rfl, by decide +kernel, by decide +kernel⟩
abbrev s_direction_between : Stmt := topS 58
abbrev N_direction_between : List Str := ["point", "following"]
theorem sc_direction_between : FnScope N_direction_between ["point", "following"] (defScope s_direction_between) := ⟨rfl, rfl, rfl, by decide +kernel, rfl, by decide +kernel, by decide +kernel⟩
abbrev s_tilted : Stmt := topS 59
abbrev N_tilted : List Str := ["direction", "sizes", "x", "y", "factor"]
theorem sc_tilted : FnScope N_tilted ["direction", "sizes"] (defScope s_tilted) := ⟨rfl, rfl, rfl, by decide +kernel, rfl, by decide +kernel, by decide +kernel⟩
abbrev s_best_at : Stmt := topS 60
abbrev N_best_at : List Str := ["direction", "sizes", "reads", "x", "y", "least", "schedule"]
theorem sc_best_at : FnScope N_best_at ["direction", "sizes", "reads"] (defScope s_best_at) := ⟨rfl, rfl, rfl, by decide +kernel, rfl, by decide +kernel, by decide +kernel⟩
abbrev s_scaled : Stmt := topS 61
abbrev N_scaled : List Str := ["loads", "price", "load"]
theorem sc_scaled : FnScope N_scaled ["loads", "price"] (defScope s_scaled) := ⟨rfl, rfl, rfl, by decide +kernel, rfl, by decide +kernel, by decide +kernel⟩
abbrev s_point_of : Stmt := topS 62
abbrev N_point_of : List Str := ["schedule", "sizes", "reads"]
theorem sc_point_of : FnScope N_point_of ["schedule", "sizes", "reads"] (defScope s_point_of) := ⟨rfl, rfl, rfl, by decide +kernel, rfl, by decide +kernel, by decide +kernel⟩
abbrev s_is_tree : Stmt := topS 65
abbrev N_is_tree : List Str := ["value", "parent"]
theorem sc_is_tree : FnScope N_is_tree ["value"] (defScope s_is_tree) := ⟨rfl, rfl, rfl, by decide +kernel, rfl, by decide +kernel, by decide +kernel⟩
abbrev s_is_numbered_in_order : Stmt := topS 66
abbrev N_is_numbered_in_order : List Str := ["parents", "subtrees", "start", "stop", "parent", "roots", "root", "node"]
theorem sc_is_numbered_in_order : FnScope N_is_numbered_in_order ["parents"] (defScope s_is_numbered_in_order) := ⟨rfl, rfl, rfl, by decide +kernel, rfl, by decide +kernel, by decide +kernel⟩
abbrev s_tree_of : Stmt := topS 67
abbrev N_tree_of : List Str := ["schedule", "counts", "parents", "intervals", "start", "stop", "runs", "parent", "root", "flush"]
theorem sc_tree_of : FnScope N_tree_of ["schedule"] (defScope s_tree_of) := ⟨rfl, rfl, rfl, by decide +kernel, rfl, by decide +kernel, by decide +kernel⟩
abbrev s_schedule_of : Stmt := topS 68
abbrev N_schedule_of : List Str := ["tree", "merges", "runs_before", "left", "right", "runs_after"]
theorem sc_schedule_of : FnScope N_schedule_of ["tree"] (defScope s_schedule_of) := ⟨rfl, rfl, rfl, by decide +kernel, rfl, by decide +kernel, by decide +kernel⟩
abbrev s_edges : Stmt := topS 69
abbrev N_edges : List Str := ["tree", "node"]
theorem sc_edges : FnScope N_edges ["tree"] (defScope s_edges) := ⟨rfl, rfl, rfl, by decide +kernel, rfl, by decide +kernel, by decide +kernel⟩
abbrev s_edges_above : Stmt := topS 70
abbrev N_edges_above : List Str := ["tree", "node", "left", "right", "child"]
theorem sc_edges_above : FnScope N_edges_above ["tree", "node"] (defScope s_edges_above) := ⟨rfl, rfl, rfl, by decide +kernel, rfl, by decide +kernel, by decide +kernel⟩
abbrev s_mirror : Stmt := topS 71
abbrev N_mirror : List Str := ["schedule", "tree", "last", "parent"]
theorem sc_mirror : FnScope N_mirror ["schedule"] (defScope s_mirror) := ⟨rfl, rfl, rfl, by decide +kernel, rfl, by decide +kernel, by decide +kernel⟩
abbrev s_mirrored_node : Stmt := topS 72
abbrev N_mirrored_node : List Str := ["node", "last"]
theorem sc_mirrored_node : FnScope N_mirrored_node ["node", "last"] (defScope s_mirrored_node) := ⟨rfl, rfl, rfl, by decide +kernel, rfl, by decide +kernel, by decide +kernel⟩
abbrev s_L_pot : Stmt := topS 74
abbrev N_L_pot : List Str := ["_law_script", "_law_k", "_law_cell", "_law_far"]
theorem sc_L_pot : FnScope N_L_pot ["_law_script", "_law_k"] (defScope s_L_pot) := ⟨rfl, rfl, rfl, by decide +kernel, rfl, by decide +kernel, by decide +kernel⟩
abbrev s_L_take : Stmt := topS 75
abbrev N_L_take : List Str := ["_law_pot_here", "_law_wide", "_law_digit", "_law_primes", "_law_prime", "_law_drawn"]
theorem sc_L_take : FnScope N_L_take ["_law_pot_here", "_law_wide"] (defScope s_L_take) := ⟨rfl, rfl, rfl, by decide +kernel, rfl, by decide +kernel, by decide +kernel⟩
abbrev s_L_of : Stmt := topS 76
abbrev N_L_of : List Str := ["_law_pot_here", "_law_some"]
theorem sc_L_of : FnScope N_L_of ["_law_pot_here", "_law_some"] (defScope s_L_of) := ⟨rfl, rfl, rfl, by decide +kernel, rfl, by decide +kernel, by decide +kernel⟩
abbrev s_L_counted : Stmt := topS 77
abbrev N_L_counted : List Str := ["_law_plan", "_law_held", "_law_times", "_law_counts", "_law_i", "_law_folded", "_law_inside", "_law_turn", "_law_flush_here"]
theorem sc_L_counted : FnScope N_L_counted ["_law_plan"] (defScope s_L_counted) := ⟨rfl, rfl, rfl, by decide +kernel, rfl, by decide +kernel, by decide +kernel⟩
abbrev s_L_load : Stmt := topS 78
abbrev N_L_load : List Str := ["_law_pot_here", "_law_count", "_law_wide", "_law_style", "_law_level", "_law_found", "_law_turn", "_law_some"]
theorem sc_L_load : FnScope N_L_load ["_law_pot_here", "_law_count", "_law_wide"] (defScope s_L_load) := ⟨rfl, rfl, rfl, by decide +kernel, rfl, by decide +kernel, by decide +kernel⟩
abbrev s_L_within : Stmt := topS 79
abbrev N_L_within : List Str := ["_law_plan", "_law_k", "_law_c", "_law_times", "_law_counts"]
theorem sc_L_within : FnScope N_L_within ["_law_plan", "_law_k", "_law_c"] (defScope s_L_within) := ⟨rfl, rfl, rfl, by decide +kernel, rfl, by decide +kernel, by decide +kernel⟩
abbrev s_L_mirrored_right : Stmt := topS 80
abbrev N_L_mirrored_right : List Str := ["_law_bulk", "_law_looks", "_law_swapped", "_law_turned", "_law_least", "_law_plan", "_law_other", "_law_there"]
theorem sc_L_mirrored_right : FnScope N_L_mirrored_right ["_law_bulk", "_law_looks"] (defScope s_L_mirrored_right) := ⟨rfl, rfl, rfl, by decide +kernel, rfl, by decide +kernel, by decide +kernel⟩
abbrev s_L_right : Stmt := topS 81
abbrev N_L_right : List Str := ["_law_pot_here", "_law_count", "_law_wide", "_law_bulk", "_law_looks", "_law_swapped", "_law_turned", "_law_k", "_law_c", "_law_one", "_law_other"]
theorem sc_L_right : FnScope N_L_right ["_law_pot_here"] (defScope s_L_right) := ⟨rfl, rfl, rfl, by decide +kernel, rfl, by decide +kernel, by decide +kernel⟩
abbrev s_law : Stmt := topS 82
abbrev N_law : List Str := ["_law_script", "_law_pot_here", "_law_k"]
theorem sc_law : FnScope N_law ["_law_script"] (defScope s_law) := ⟨rfl, rfl, rfl, by decide +kernel, rfl, by decide +kernel, by decide +kernel⟩
structure Tx (K : PySem.W.Frag) (mg : Str → Option Value) where
  a_is_int : Addr
  fd_is_int : FuncData
  f_is_int : Fun K "is_int" "is_int" s_is_int a_is_int fd_is_int
  g_is_int : mg "is_int" = some (.ref a_is_int)
  bd_is_int : Binds K fd_is_int ["value"] []
  a_is_count : Addr
  fd_is_count : FuncData
  f_is_count : Fun K "is_count" "is_count" s_is_count a_is_count fd_is_count
  g_is_count : mg "is_count" = some (.ref a_is_count)
  bd_is_count : Binds K fd_is_count ["value"] []
  a_is_count_up_to : Addr
  fd_is_count_up_to : FuncData
  f_is_count_up_to : Fun K "is_count_up_to" "is_count_up_to" s_is_count_up_to a_is_count_up_to fd_is_count_up_to
  g_is_count_up_to : mg "is_count_up_to" = some (.ref a_is_count_up_to)
  bd_is_count_up_to : Binds K fd_is_count_up_to ["value", "most"] []
  a_check_budgets : Addr
  fd_check_budgets : FuncData
  f_check_budgets : Fun K "check_budgets" "check_budgets" s_check_budgets a_check_budgets fd_check_budgets
  g_check_budgets : mg "check_budgets" = some (.ref a_check_budgets)
  bd_check_budgets : Binds K fd_check_budgets ["k", "c", "most"] []
  a_are_loads : Addr
  fd_are_loads : FuncData
  f_are_loads : Fun K "are_loads" "are_loads" s_are_loads a_are_loads fd_are_loads
  g_are_loads : mg "are_loads" = some (.ref a_are_loads)
  bd_are_loads : Binds K fd_are_loads ["value", "fewest", "most"] []
  a_check_sizes : Addr
  fd_check_sizes : FuncData
  f_check_sizes : Fun K "check_sizes" "check_sizes" s_check_sizes a_check_sizes fd_check_sizes
  g_check_sizes : mg "check_sizes" = some (.ref a_check_sizes)
  bd_check_sizes : Binds K fd_check_sizes ["sizes", "fewest", "most"] []
  a_check_reads : Addr
  fd_check_reads : FuncData
  f_check_reads : Fun K "check_reads" "check_reads" s_check_reads a_check_reads fd_check_reads
  g_check_reads : mg "check_reads" = some (.ref a_check_reads)
  bd_check_reads : Binds K fd_check_reads ["reads", "flushes"] []
  a_check_loads : Addr
  fd_check_loads : FuncData
  f_check_loads : Fun K "check_loads" "check_loads" s_check_loads a_check_loads fd_check_loads
  g_check_loads : mg "check_loads" = some (.ref a_check_loads)
  bd_check_loads : Binds K fd_check_loads ["sizes", "reads", "most"] []
  a_is_schedule : Addr
  fd_is_schedule : FuncData
  f_is_schedule : Fun K "is_schedule" "is_schedule" s_is_schedule a_is_schedule fd_is_schedule
  g_is_schedule : mg "is_schedule" = some (.ref a_is_schedule)
  bd_is_schedule : Binds K fd_is_schedule ["value"] []
  a_stacks : Addr
  fd_stacks : FuncData
  f_stacks : Fun K "stacks" "stacks" s_stacks a_stacks fd_stacks
  g_stacks : mg "stacks" = some (.ref a_stacks)
  bd_stacks : Binds K fd_stacks ["schedule"] []
  a_stack_after : Addr
  fd_stack_after : FuncData
  f_stack_after : Fun K "stack_after" "stack_after" s_stack_after a_stack_after fd_stack_after
  g_stack_after : mg "stack_after" = some (.ref a_stack_after)
  bd_stack_after : Binds K fd_stack_after ["stack", "flush", "merge"] []
  a_writes : Addr
  fd_writes : FuncData
  f_writes : Fun K "writes" "writes" s_writes a_writes fd_writes
  g_writes : mg "writes" = some (.ref a_writes)
  bd_writes : Binds K fd_writes ["schedule"] []
  a_run_counts : Addr
  fd_run_counts : FuncData
  f_run_counts : Fun K "run_counts" "run_counts" s_run_counts a_run_counts fd_run_counts
  g_run_counts : mg "run_counts" = some (.ref a_run_counts)
  bd_run_counts : Binds K fd_run_counts ["schedule"] []
  a_runs_at_end : Addr
  fd_runs_at_end : FuncData
  f_runs_at_end : Fun K "runs_at_end" "runs_at_end" s_runs_at_end a_runs_at_end fd_runs_at_end
  g_runs_at_end : mg "runs_at_end" = some (.ref a_runs_at_end)
  bd_runs_at_end : Binds K fd_runs_at_end ["schedule"] []
  a_least_work : Addr
  fd_least_work : FuncData
  f_least_work : Fun K "least_work" "least_work" s_least_work a_least_work fd_least_work
  g_least_work : mg "least_work" = some (.ref a_least_work)
  bd_least_work : Binds K fd_least_work ["sizes", "reads"] []
  a_least_of : Addr
  fd_least_of : FuncData
  f_least_of : Fun K "least_of" "least_of" s_least_of a_least_of fd_least_of
  g_least_of : mg "least_of" = some (.ref a_least_of)
  bd_least_of : Binds K fd_least_of ["sizes", "reads"] []
  a_least_rows : Addr
  fd_least_rows : FuncData
  f_least_rows : Fun K "least_rows" "least_rows" s_least_rows a_least_rows fd_least_rows
  g_least_rows : mg "least_rows" = some (.ref a_least_rows)
  bd_least_rows : Binds K fd_least_rows ["sizes", "reads"] []
  a_load_sums : Addr
  fd_load_sums : FuncData
  f_load_sums : Fun K "load_sums" "load_sums" s_load_sums a_load_sums fd_load_sums
  g_load_sums : mg "load_sums" = some (.ref a_load_sums)
  bd_load_sums : Binds K fd_load_sums ["sizes", "reads"] []
  a_running_sums : Addr
  fd_running_sums : FuncData
  f_running_sums : Fun K "running_sums" "running_sums" s_running_sums a_running_sums fd_running_sums
  g_running_sums : mg "running_sums" = some (.ref a_running_sums)
  bd_running_sums : Binds K fd_running_sums ["loads"] []
  a_works_by_root : Addr
  fd_works_by_root : FuncData
  f_works_by_root : Fun K "works_by_root" "works_by_root" s_works_by_root a_works_by_root fd_works_by_root
  g_works_by_root : mg "works_by_root" = some (.ref a_works_by_root)
  bd_works_by_root : Binds K fd_works_by_root ["lefts", "rights", "sums", "start", "stop"] []
  a_root_cost : Addr
  fd_root_cost : FuncData
  f_root_cost : Fun K "root_cost" "root_cost" s_root_cost a_root_cost fd_root_cost
  g_root_cost : mg "root_cost" = some (.ref a_root_cost)
  bd_root_cost : Binds K fd_root_cost ["sums", "start", "stop", "root"] []
  a_schedule_in_optimum : Addr
  fd_schedule_in_optimum : FuncData
  f_schedule_in_optimum : Fun K "schedule_in" "schedule_in" s_schedule_in_optimum a_schedule_in_optimum fd_schedule_in_optimum
  g_schedule_in_optimum : mg "schedule_in_optimum" = some (.ref a_schedule_in_optimum)
  bd_schedule_in_optimum : Binds K fd_schedule_in_optimum ["rows", "sums", "start", "stop"] []
  a_least_root : Addr
  fd_least_root : FuncData
  f_least_root : Fun K "least_root" "least_root" s_least_root a_least_root fd_least_root
  g_least_root : mg "least_root" = some (.ref a_least_root)
  bd_least_root : Binds K fd_least_root ["lefts", "rights", "sums", "start", "stop"] []
  a_joined : Addr
  fd_joined : FuncData
  f_joined : Fun K "joined" "joined" s_joined a_joined fd_joined
  g_joined : mg "joined" = some (.ref a_joined)
  bd_joined : Binds K fd_joined ["left", "right"] []
  a_least_work_within : Addr
  fd_least_work_within : FuncData
  f_least_work_within : Fun K "least_work_within" "least_work_within" s_least_work_within a_least_work_within fd_least_work_within
  g_least_work_within : mg "least_work_within" = some (.ref a_least_work_within)
  bd_least_work_within : Binds K fd_least_work_within ["sizes", "reads", "k", "c"] []
  a_check_arguments : Addr
  fd_check_arguments : FuncData
  f_check_arguments : Fun K "check_arguments" "check_arguments" s_check_arguments a_check_arguments fd_check_arguments
  g_check_arguments : mg "check_arguments" = some (.ref a_check_arguments)
  bd_check_arguments : Binds K fd_check_arguments ["sizes", "reads", "k", "c"] []
  a_least_tables : Addr
  fd_least_tables : FuncData
  f_least_tables : Fun K "least_tables" "least_tables" s_least_tables a_least_tables fd_least_tables
  g_least_tables : mg "least_tables" = some (.ref a_least_tables)
  bd_least_tables : Binds K fd_least_tables ["sizes", "reads", "k", "c"] []
  a_rows_without_trees : Addr
  fd_rows_without_trees : FuncData
  f_rows_without_trees : Fun K "rows_without_trees" "rows_without_trees" s_rows_without_trees a_rows_without_trees fd_rows_without_trees
  g_rows_without_trees : mg "rows_without_trees" = some (.ref a_rows_without_trees)
  bd_rows_without_trees : Binds K fd_rows_without_trees ["n"] []
  a_rows_over : Addr
  fd_rows_over : FuncData
  f_rows_over : Fun K "rows_over" "rows_over" s_rows_over a_rows_over fd_rows_over
  g_rows_over : mg "rows_over" = some (.ref a_rows_over)
  bd_rows_over : Binds K fd_rows_over ["lefts", "rights", "sums", "n"] []
  a_schedule_in_bounded : Addr
  fd_schedule_in_bounded : FuncData
  f_schedule_in_bounded : Fun K "schedule_in" "schedule_in" s_schedule_in_bounded a_schedule_in_bounded fd_schedule_in_bounded
  g_schedule_in_bounded : mg "schedule_in_bounded" = some (.ref a_schedule_in_bounded)
  bd_schedule_in_bounded : Binds K fd_schedule_in_bounded ["tables", "sums", "b", "a", "start", "stop"] []
  a_write_work : Addr
  fd_write_work : FuncData
  f_write_work : Fun K "write_work" "write_work" s_write_work a_write_work fd_write_work
  g_write_work : mg "write_work" = some (.ref a_write_work)
  bd_write_work : Binds K fd_write_work ["schedule", "sizes"] []
  a_weighted : Addr
  fd_weighted : FuncData
  f_weighted : Fun K "weighted" "weighted" s_weighted a_weighted fd_weighted
  g_weighted : mg "weighted" = some (.ref a_weighted)
  bd_weighted : Binds K fd_weighted ["loads", "counts"] []
  a_read_work : Addr
  fd_read_work : FuncData
  f_read_work : Fun K "read_work" "read_work" s_read_work a_read_work fd_read_work
  g_read_work : mg "read_work" = some (.ref a_read_work)
  bd_read_work : Binds K fd_read_work ["schedule", "reads"] []
  a_work : Addr
  fd_work : FuncData
  f_work : Fun K "work" "work" s_work a_work fd_work
  g_work : mg "work" = some (.ref a_work)
  bd_work : Binds K fd_work ["schedule", "sizes", "reads"] []
  a_corners : Addr
  fd_corners : FuncData
  f_corners : Fun K "corners" "corners" s_corners a_corners fd_corners
  g_corners : mg "corners" = some (.ref a_corners)
  bd_corners : Binds K fd_corners ["sizes", "reads"] []
  a_corners_with_schedules : Addr
  fd_corners_with_schedules : FuncData
  f_corners_with_schedules : Fun K "corners_with_schedules" "corners_with_schedules" s_corners_with_schedules a_corners_with_schedules fd_corners_with_schedules
  g_corners_with_schedules : mg "corners_with_schedules" = some (.ref a_corners_with_schedules)
  bd_corners_with_schedules : Binds K fd_corners_with_schedules ["sizes", "reads"] []
  a_first_direction : Addr
  fd_first_direction : FuncData
  f_first_direction : Fun K "first_direction" "first_direction" s_first_direction a_first_direction fd_first_direction
  g_first_direction : mg "first_direction" = some (.ref a_first_direction)
  bd_first_direction : Binds K fd_first_direction ["reads"] []
  a_last_direction : Addr
  fd_last_direction : FuncData
  f_last_direction : Fun K "last_direction" "last_direction" s_last_direction a_last_direction fd_last_direction
  g_last_direction : mg "last_direction" = some (.ref a_last_direction)
  bd_last_direction : Binds K fd_last_direction ["sizes"] []
  a_direction_between : Addr
  fd_direction_between : FuncData
  f_direction_between : Fun K "direction_between" "direction_between" s_direction_between a_direction_between fd_direction_between
  g_direction_between : mg "direction_between" = some (.ref a_direction_between)
  bd_direction_between : Binds K fd_direction_between ["point", "following"] []
  a_tilted : Addr
  fd_tilted : FuncData
  f_tilted : Fun K "tilted" "tilted" s_tilted a_tilted fd_tilted
  g_tilted : mg "tilted" = some (.ref a_tilted)
  bd_tilted : Binds K fd_tilted ["direction", "sizes"] []
  a_best_at : Addr
  fd_best_at : FuncData
  f_best_at : Fun K "best_at" "best_at" s_best_at a_best_at fd_best_at
  g_best_at : mg "best_at" = some (.ref a_best_at)
  bd_best_at : Binds K fd_best_at ["direction", "sizes", "reads"] []
  a_scaled : Addr
  fd_scaled : FuncData
  f_scaled : Fun K "scaled" "scaled" s_scaled a_scaled fd_scaled
  g_scaled : mg "scaled" = some (.ref a_scaled)
  bd_scaled : Binds K fd_scaled ["loads", "price"] []
  a_point_of : Addr
  fd_point_of : FuncData
  f_point_of : Fun K "point_of" "point_of" s_point_of a_point_of fd_point_of
  g_point_of : mg "point_of" = some (.ref a_point_of)
  bd_point_of : Binds K fd_point_of ["schedule", "sizes", "reads"] []
  a_is_tree : Addr
  fd_is_tree : FuncData
  f_is_tree : Fun K "is_tree" "is_tree" s_is_tree a_is_tree fd_is_tree
  g_is_tree : mg "is_tree" = some (.ref a_is_tree)
  bd_is_tree : Binds K fd_is_tree ["value"] []
  a_is_numbered_in_order : Addr
  fd_is_numbered_in_order : FuncData
  f_is_numbered_in_order : Fun K "is_numbered_in_order" "is_numbered_in_order" s_is_numbered_in_order a_is_numbered_in_order fd_is_numbered_in_order
  g_is_numbered_in_order : mg "is_numbered_in_order" = some (.ref a_is_numbered_in_order)
  bd_is_numbered_in_order : Binds K fd_is_numbered_in_order ["parents"] []
  a_tree_of : Addr
  fd_tree_of : FuncData
  f_tree_of : Fun K "tree_of" "tree_of" s_tree_of a_tree_of fd_tree_of
  g_tree_of : mg "tree_of" = some (.ref a_tree_of)
  bd_tree_of : Binds K fd_tree_of ["schedule"] []
  a_schedule_of : Addr
  fd_schedule_of : FuncData
  f_schedule_of : Fun K "schedule_of" "schedule_of" s_schedule_of a_schedule_of fd_schedule_of
  g_schedule_of : mg "schedule_of" = some (.ref a_schedule_of)
  bd_schedule_of : Binds K fd_schedule_of ["tree"] []
  a_edges : Addr
  fd_edges : FuncData
  f_edges : Fun K "edges" "edges" s_edges a_edges fd_edges
  g_edges : mg "edges" = some (.ref a_edges)
  bd_edges : Binds K fd_edges ["tree"] []
  a_edges_above : Addr
  fd_edges_above : FuncData
  f_edges_above : Fun K "edges_above" "edges_above" s_edges_above a_edges_above fd_edges_above
  g_edges_above : mg "edges_above" = some (.ref a_edges_above)
  bd_edges_above : Binds K fd_edges_above ["tree", "node"] []
  a_mirror : Addr
  fd_mirror : FuncData
  f_mirror : Fun K "mirror" "mirror" s_mirror a_mirror fd_mirror
  g_mirror : mg "mirror" = some (.ref a_mirror)
  bd_mirror : Binds K fd_mirror ["schedule"] []
  a_mirrored_node : Addr
  fd_mirrored_node : FuncData
  f_mirrored_node : Fun K "mirrored_node" "mirrored_node" s_mirrored_node a_mirrored_node fd_mirrored_node
  g_mirrored_node : mg "mirrored_node" = some (.ref a_mirrored_node)
  bd_mirrored_node : Binds K fd_mirrored_node ["node", "last"] []
  a_L_pot : Addr
  fd_L_pot : FuncData
  f_L_pot : Fun K "_law_pot" "_law_pot" s_L_pot a_L_pot fd_L_pot
  g_L_pot : mg "_law_pot" = some (.ref a_L_pot)
  bd_L_pot : Binds K fd_L_pot ["_law_script", "_law_k"] []
  a_L_take : Addr
  fd_L_take : FuncData
  f_L_take : Fun K "_law_take" "_law_take" s_L_take a_L_take fd_L_take
  g_L_take : mg "_law_take" = some (.ref a_L_take)
  bd_L_take : Binds K fd_L_take ["_law_pot_here", "_law_wide"] []
  a_L_of : Addr
  fd_L_of : FuncData
  f_L_of : Fun K "_law_of" "_law_of" s_L_of a_L_of fd_L_of
  g_L_of : mg "_law_of" = some (.ref a_L_of)
  bd_L_of : Binds K fd_L_of ["_law_pot_here", "_law_some"] []
  a_L_counted : Addr
  fd_L_counted : FuncData
  f_L_counted : Fun K "_law_counted" "_law_counted" s_L_counted a_L_counted fd_L_counted
  g_L_counted : mg "_law_counted" = some (.ref a_L_counted)
  bd_L_counted : Binds K fd_L_counted ["_law_plan"] []
  a_L_load : Addr
  fd_L_load : FuncData
  f_L_load : Fun K "_law_load" "_law_load" s_L_load a_L_load fd_L_load
  g_L_load : mg "_law_load" = some (.ref a_L_load)
  bd_L_load : Binds K fd_L_load ["_law_pot_here", "_law_count", "_law_wide"] []
  a_L_within : Addr
  fd_L_within : FuncData
  f_L_within : Fun K "_law_within" "_law_within" s_L_within a_L_within fd_L_within
  g_L_within : mg "_law_within" = some (.ref a_L_within)
  bd_L_within : Binds K fd_L_within ["_law_plan", "_law_k", "_law_c"] []
  a_L_mirrored_right : Addr
  fd_L_mirrored_right : FuncData
  f_L_mirrored_right : Fun K "_law_mirrored_right" "_law_mirrored_right" s_L_mirrored_right a_L_mirrored_right fd_L_mirrored_right
  g_L_mirrored_right : mg "_law_mirrored_right" = some (.ref a_L_mirrored_right)
  bd_L_mirrored_right : Binds K fd_L_mirrored_right ["_law_bulk", "_law_looks"] []
  a_L_right : Addr
  fd_L_right : FuncData
  f_L_right : Fun K "_law_right" "_law_right" s_L_right a_L_right fd_L_right
  g_L_right : mg "_law_right" = some (.ref a_L_right)
  bd_L_right : Binds K fd_L_right ["_law_pot_here"] []
  a_law : Addr
  fd_law : FuncData
  f_law : Fun K "law" "law" s_law a_law fd_law
  g_law : mg "law" = some (.ref a_law)
  bd_law : Binds K fd_law ["_law_script"] []
  b_isinstance : mg "isinstance" = none
  b_int : mg "int" = none
  b_bool : mg "bool" = none
  b_all : mg "all" = none
  b_tuple : mg "tuple" = none
  b_len : mg "len" = none
  b_enumerate : mg "enumerate" = none
  b_range : mg "range" = none
  b_sum : mg "sum" = none
  b_reversed : mg "reversed" = none
  b_min : mg "min" = none
  b_zip : mg "zip" = none
  b_max : mg "max" = none
  b_abs : mg "abs" = none
  t_MOST_LOAD : Tok
  c_MOST_LOAD : mg "MOST_LOAD" = some (.int (1000000000) t_MOST_LOAD)
  t_MOST_FLUSHES : Tok
  c_MOST_FLUSHES : mg "MOST_FLUSHES" = some (.int (60) t_MOST_FLUSHES)
  t_MOST_BOUNDED_FLUSHES : Tok
  c_MOST_BOUNDED_FLUSHES : mg "MOST_BOUNDED_FLUSHES" = some (.int (14) t_MOST_BOUNDED_FLUSHES)
  t_MOST_BOUNDED_BUDGET : Tok
  c_MOST_BOUNDED_BUDGET : mg "MOST_BOUNDED_BUDGET" = some (.int (8) t_MOST_BOUNDED_BUDGET)
  t_MOST_PRICED_FLUSHES : Tok
  c_MOST_PRICED_FLUSHES : mg "MOST_PRICED_FLUSHES" = some (.int (24) t_MOST_PRICED_FLUSHES)
  t_NO_PARENT : Tok
  c_NO_PARENT : mg "NO_PARENT" = some (.int (-1) t_NO_PARENT)
section
variable {P : Program} {w : World} {K : PySem.W.Frag} {mg : Str → Option Value} {base : Heap}
def sp_is_int (K : PySem.W.Frag) : Sp := fun vs H Q _ => ∃ i : Int, vs = [.int i] ∧ Q (.bl true) H
theorem ok_is_int (TX : Tx K mg) : FnOk P w K mg base CX0 1 TX.a_is_int TX.fd_is_int ["value"] (sp_is_int K) := by
  refine TX.f_is_int.ok sc_is_int (fun vs H Q E h => ?_) (fun cdv A outer s H vs Q E hr h => ?_)
  · obtain ⟨i, rfl, _⟩ := h; rfl
  · obtain ⟨i, rfl, q⟩ := h
    refine ⟨_, (pss_one (ps_ret (pe_and (pe_callB (id := "isinstance") (k_isi (K := K) rfl) (by rfl) TX.b_isinstance (by decide +kernel) (pa_cons (pv 0) (pa_cons (pe_bltn (v := .ty "int") (by rfl) TX.b_int (by decide +kernel) rfl) pa_nil))) (pe_one (pe_not (pe_callB (id := "isinstance") (k_isi (K := K) rfl) (by rfl) TX.b_isinstance (by decide +kernel) (pa_cons (pv 0) (pa_cons (pe_bltn (v := .ty "bool") (by rfl) TX.b_bool (by decide +kernel) rfl) pa_nil)))))))), ?_⟩
    refine ⟨.int i, rfl, .int i, .ty "int", .type "int", .type "int", true, rfl, .ty _, .base (.int i), kit_ty (by decide +kernel), true, rfl, ?_⟩
    exact iteT ⟨.int i, rfl, .int i, .ty "bool", .type "int", .type "bool", false, rfl, .ty _, .base (.int i), kit_ty (by decide +kernel), false, rfl, q⟩
def sp_is_count (K : PySem.W.Frag) : Sp := fun vs H Q _ => ∃ i : Int, vs = [.int i] ∧ Q (.bl (decide (0 ≤ i))) H
theorem ok_is_count (TX : Tx K mg) : FnOk P w K mg base CX0 2 TX.a_is_count TX.fd_is_count ["value"] (sp_is_count K) := by
  refine TX.f_is_count.ok sc_is_count (fun vs H Q E h => ?_) (fun cdv A outer s H vs Q E hr h => ?_)
  · obtain ⟨i, rfl, _⟩ := h; rfl
  · obtain ⟨i, rfl, q⟩ := h
    refine ⟨_, (pss_one (ps_ret (pe_and (pe_call (ok_is_int TX) (hr.mono (by decide)) (by rfl) TX.g_is_int TX.f_is_int.kp TX.bd_is_int .nil pass0 (pa_cons (pv 0) pa_nil)) (pe_one (pe_cmpR op_ge (pv 0) pe_int (nomark _)))))), ?_⟩
    exact ⟨.int i, rfl, i, rfl, true, rfl, iteT ⟨.int i, rfl, i, 0, rfl, rfl, q⟩⟩
def sp_is_count_up_to (K : PySem.W.Frag) : Sp := fun vs H Q _ => ∃ i m : Int, vs = [.int i, .int m] ∧ Q (.bl (decide (0 ≤ i) && decide (i ≤ m))) H
theorem ok_is_count_up_to (TX : Tx K mg) : FnOk P w K mg base CX0 3 TX.a_is_count_up_to TX.fd_is_count_up_to ["value", "most"] (sp_is_count_up_to K) := by
  refine TX.f_is_count_up_to.ok sc_is_count_up_to (fun vs H Q E h => ?_) (fun cdv A outer s H vs Q E hr h => ?_)
  · obtain ⟨i, m, rfl, _⟩ := h; rfl
  · obtain ⟨i, m, rfl, q⟩ := h
    refine ⟨_, (pss_one (ps_ret (pe_and (pe_call (ok_is_count TX) (hr.mono (by decide)) (by rfl) TX.g_is_count TX.f_is_count.kp TX.bd_is_count .nil pass0 (pa_cons (pv 0) pa_nil)) (pe_one (pe_cmpR op_le (pv 0) (pv 1) (nomark _)))))), ?_⟩
    refine ⟨.int i, rfl, i, rfl, _, rfl, ?_⟩
    by_cases h0 : 0 ≤ i
    · rw [decide_eq_true h0] at q ⊢
      exact iteT ⟨.int i, rfl, .int m, rfl, i, m, rfl, rfl, q⟩
    · rw [decide_eq_false h0] at q ⊢
      exact iteF q
def sp_is_schedule (K : PySem.W.Frag) : Sp := fun vs H Q _ => ∃ (a : Addr) (t : T), vs = [.ref a] ∧ SqT K H a (vi t.sch) ∧ t.size ≤ 60 ∧ Q (.bl true) H
theorem ok_is_schedule (TX : Tx K mg) : FnOk P w K mg base CX0 4 TX.a_is_schedule TX.fd_is_schedule ["value"] (sp_is_schedule K) := by
  refine TX.f_is_schedule.ok sc_is_schedule (fun vs H Q E h => ?_) (fun cdv A outer s H vs Q E hr h => ?_)
  · obtain ⟨a, t, rfl, _⟩ := h; rfl
  · obtain ⟨a, t, rfl, hS, hz, q⟩ := h
    have hlen : (vi t.sch).length = t.size := by rw [vi_len, T.sch_len]
    refine ⟨_, (pss_cons (ps_if (PW.pt (pw_or (pt_not (pt_val (pe_callB (id := "isinstance") (k_isi (K := K) rfl) (by rfl) TX.b_isinstance (by decide +kernel) (pa_cons (pv 0) (pa_cons (pe_bltn (v := .ty "tuple") (by rfl) TX.b_tuple (by decide +kernel) rfl) pa_nil))))) (pw_or1 (pt_cmpR op_gt (pe_callB (id := "len") (k_len (K := K) rfl) (by rfl) TX.b_len (by decide +kernel) (pa_cons (pv 0) pa_nil)) (pe_glob (v := .int (60)) (by rfl) TX.c_MOST_FLUSHES ⟨_, rfl⟩) (nomark _)))))
        (pss_one (ps_ret pe_bl))
        pss_nil)
      (pss_cons (ps_set (i := 1) sc_is_schedule.nd rfl (.inl rfl) pe_int)
      (pss_cons (ps_for PassesOwn.never rfl (k_piT (K := K) rfl (pv 0)) (pg_name (i := 2) sc_is_schedule.nd rfl (.inl rfl))
        (pss_cons (ps_if (pt_not (pt_val (pe_call (ok_is_count_up_to TX) (hr.mono (by decide)) (by rfl) TX.g_is_count_up_to TX.f_is_count_up_to.kp TX.bd_is_count_up_to .nil pass0 (pa_cons (pv 2) (pa_cons (pv 1) pa_nil)))))
          (pss_one (ps_ret pe_bl))
          pss_nil)
        (pss_one (ps_set (i := 1) sc_is_schedule.nd rfl (.inl rfl) (pe_op op_add (pe_op op_sub (pv 1) (pv 2)) pe_int)))))
      (pss_one (ps_ret pe_bl))))), ?_⟩
    refine ⟨.ref a, rfl, .ref a, .ty "tuple", .type "tuple", .type "tuple", true, rfl, .ty _, ty_tup hS, kit_ty (by decide +kernel), true, rfl, iteF ⟨.ref a, rfl, a, _, rfl, .inr hS, _, _, rfl, rfl, _, rfl, decF (by rw [hlen]; omega) ?_⟩⟩
    refine ⟨.ref a, rfl, a, rfl, ⟨_, hS⟩, for_tup (K := K) (xs := vi t.sch) (fun i σ H' => H' = H ∧ ∃ y2, σ = [some (.ref a), some (.int ((pre t i).runs : Int)), y2] ) ⟨rfl, none, rfl⟩ (fun i σ H' _ h => by rw [h.1]; exact hS) ?_ ?_⟩
    · rintro i x σ H' hx ⟨rfl, y2, rfl⟩
      have hi : i < t.sch.length := by
        have := (List.getElem?_eq_some_iff.mp hx).1
        rwa [vi_len] at this
      have hm := List.getElem?_eq_getElem hi
      rw [vi_get hm] at hx
      cases hx
      obtain ⟨e1, h1⟩ := pre_succ hm
      have e2 := T.push_runs _ _ h1
      refine ⟨_, rfl, _, rfl, _, _, rfl, true, ?_, iteF ⟨_, rfl, _, rfl, _, _, rfl, rfl, _, _, rfl, rfl, rfl, some (.int (t.sch[i] : Int)), ?_⟩⟩
      · rw [decide_eq_true (by omega), decide_eq_true (by omega)]; rfl
      · rw [e1, e2]
        show [_, _, _] = [_, _, _]
        simp only [Int.natCast_add, Int.natCast_sub h1]
        rfl
    · rintro σ H' ⟨rfl, y2, rfl⟩
      exact q
end
def dPr (p : Nat × Nat) : PyData := .tuple [.int (p.1 : Int), .int (p.2 : Int)]
def dStk (l : List (Nat × Nat)) : PyData := .tuple (l.map dPr)
theorem tf_pr (p : Nat × Nat) : Tf (dPr p) := .tup fun d h => by
  rcases List.mem_cons.mp h with rfl | h
  · exact .int _
  · rcases List.mem_cons.mp h with rfl | h
    · exact .int _
    · cases h
theorem tf_stk (l : List (Nat × Nat)) : Tf (dStk l) := .tup fun d h => by
  obtain ⟨p, _, rfl⟩ := List.mem_map.mp h
  exact tf_pr p
section
variable {P : Program} {w : World} {K : PySem.W.Frag} {mg : Str → Option Value} {base : Heap}
def sp_stack_after (K : PySem.W.Frag) : Sp := fun vs H Q _ => ∃ (a : Addr) (t : T) (m : Nat), vs = [.ref a, .int (t.size : Int), .int (m : Int)] ∧ Dp K H (.ref a) (dStk (t.stk 0)) ∧ m ≤ t.runs ∧ t.size ≤ 60 ∧
  ∀ H' p, Same H H' → Dp K H' (.ref p) (dStk ((t.push m).stk 0)) → Q (.ref p) H'
theorem ok_stack_after (TX : Tx K mg) : FnOk P w K mg base CX0 1 TX.a_stack_after TX.fd_stack_after ["stack", "flush", "merge"] (sp_stack_after K) := by
  refine TX.f_stack_after.ok sc_stack_after (fun vs H Q E h => ?_) (fun cdv A outer s H vs Q E hr h => ?_)
  · obtain ⟨a, t, m, rfl, _⟩ := h; rfl
  · obtain ⟨a, t, m, rfl, hS, hm, hz, q⟩ := h
    obtain ⟨a', xs, e, hS, hA⟩ := Dp.tupInv hS
    cases e
    have hl := DpAll.len hA
    rw [List.length_map, T.stk_len] at hl
    have hrs := T.runs_le t
    have hst := T.start_le t m hm
    have e2 : ((xs.length : Int) - (m : Int)) = ((t.runs - m : Nat) : Int) := by rw [hl]; omega
    refine ⟨_, (pss_cons (ps_set (i := 3) sc_stack_after.nd rfl (.inl rfl) (pe_op op_sub (pe_callB (id := "len") (k_len (K := K) rfl) (by rfl) TX.b_len (by decide +kernel) (pa_cons (pv 0) pa_nil)) (pv 2)))
      (pss_cons (ps_set (i := 4) sc_stack_after.nd rfl (.inl rfl) (pe_ifExp (pt_cmpR op_gt (pv 2) pe_int (nomark _)) (pe_ix (k_ixT (K := K) rfl) (pe_ix (k_ixT (K := K) rfl) (pv 0) (pv 3) (fun _ _ => rfl)) pe_int (fun _ _ => rfl)) (pv 1)))
      (pss_one (ps_ret (pe_op (k_catT (K := K) rfl) (pe_slice (k_slT (K := K) rfl) (pv 0) po_none (po_some (pv 3))) (pe_tup (pa_cons (pe_tup (pa_cons (pv 4) (pa_cons (pe_op op_add (pv 1) pe_int) pa_nil))) pa_nil))))))), ?_⟩
    refine ⟨.ref a, rfl, a, xs, rfl, .inr hS, .int m, rfl, _, _, rfl, rfl, ?_⟩
    refine ⟨.int m, rfl, m, 0, rfl, rfl, _, rfl, ?_⟩
    have pos : (0 < m → ∃ b e, xs[t.runs - m]? = some (.ref b) ∧ SqT K H b [.int (t.start m : Int), .int e]) := fun h0 => by
      obtain ⟨e, he⟩ := T.stk_at t m hm 0 h0
      have h1 : ((t.stk 0).map dPr)[t.runs - m]? = some (dPr (0 + t.start m, e)) := by rw [List.getElem?_map, he]; rfl
      obtain ⟨v, h2, h3⟩ := DpAll.get hA h1
      obtain ⟨b, ys, rfl, h4, h5⟩ := Dp.tupInv h3
      have h6 : ys = [V.int (t.start m : Int), V.int (e : Int)] := by
        have := dp_ints_inv (ns := [((0 + t.start m : Nat) : Int), (e : Int)]) h5
        rw [this, Nat.zero_add]; rfl
      rw [h6] at h4
      exact ⟨b, e, h2, h4⟩
    have fin : ∀ p1 H1 p2 p3, Same H H1 → SqT K H1 p1 (xs.take (t.runs - m)) → H1 p2 = none → (upd H1 p2 (.tup [.int (t.start m : Int), .int ((t.size : Int) + 1)])) p3 = none →
        rCatA K (.ref p1) (.ref p3) (upd (upd H1 p2 (.tup [.int (t.start m : Int), .int ((t.size : Int) + 1)])) p3 (.tup [.ref p2])) Q := fun p1 H1 p2 p3 s1 h1 n2 n3 => by
      have s2 : Same H1 (upd H1 p2 (.tup [.int (t.start m : Int), .int ((t.size : Int) + 1)])) := same_upd n2
      have s3 := same_upd (o := .tup [.ref p2]) n3
      refine cat_read (Same.tup (s2.trans s3) h1) (.inl (.inl upd_same)) (by rw [List.length_take]; simp; omega) fun p H' s4 h4 => q H' p (((s1.trans s2).trans s3).trans s4) ?_
      rw [T.stk_push t m hm 0]
      unfold dStk
      rw [List.map_append, List.map_take]
      refine .tup h4 (DpAll.append (DpAll.same (((s1.trans s2).trans s3).trans s4) (DpAll.take _ hA)) (.cons ?_ .nil))
      refine .tup (xs := [.int (t.start m : Int), .int ((t.size : Int) + 1)]) (Same.tup (s3.trans s4) (.inl (.inl upd_same))) ?_
      have := dp_ints (K := K) (H := H') [(t.start m : Int), ((t.size : Int) + 1)]
      simpa using this
    refine ite2 (fun h => ?_) (fun h => ?_)
    · have h0 : 0 < m := by simpa using h
      obtain ⟨b, e, h2, h4⟩ := pos h0
      refine ⟨.ref a, rfl, _, rfl, a, xs, _, .ref b, rfl, rfl, hS, (by rw [e2]; exact atI_nat h2), b, _, 0, .int (t.start m : Int), rfl, rfl, h4, rfl, ?_⟩
      refine ⟨.ref a, rfl, _, rfl, _, rfl, sl_read hS fun p1 H1 s1 h1 => ?_⟩
      refine ⟨_, rfl, _, rfl, _, _, rfl, rfl, sz60 (by simp), fun p2 n2 => ⟨sz60 (by simp), fun p3 n3 => ?_⟩⟩
      exact fin p1 H1 p2 p3 s1 (by rw [e2, cut_to (by omega)] at h1; exact h1) n2 n3
    · have h0 : m = 0 := by
        have : ¬ (0 < m) := by simpa using h
        omega
      refine ⟨.int (t.start m : Int), by rw [T.start_zero t m hm h0]; rfl, ?_⟩
      refine ⟨.ref a, rfl, _, rfl, _, rfl, sl_read hS fun p1 H1 s1 h1 => ?_⟩
      refine ⟨_, rfl, _, rfl, _, _, rfl, rfl, sz60 (by simp), fun p2 n2 => ⟨sz60 (by simp), fun p3 n3 => ?_⟩⟩
      exact fin p1 H1 p2 p3 s1 (by rw [e2, cut_to (by omega)] at h1; exact h1) n2 n3
def dStacks (t : T) : List PyData := (List.range t.size).map fun i => dStk ((pre t (i + 1)).stk 0)
theorem tf_stacks (t : T) : ∀ d, d ∈ dStacks t → Tf d := fun d h => by
  obtain ⟨i, _, rfl⟩ := List.mem_map.mp h
  exact tf_stk _
theorem dStacks_len (t : T) : (dStacks t).length = t.size := by simp [dStacks]
theorem dStacks_at {t : T} {i : Nat} (h : i < t.size) : (dStacks t)[i]? = some (dStk ((pre t (i + 1)).stk 0)) := by simp [dStacks, h]
theorem dStacks_take {t : T} {i : Nat} (h : i < t.size) : (dStacks t).take (i + 1) = (dStacks t).take i ++ [dStk ((pre t (i + 1)).stk 0)] := by
  rw [List.take_add_one, dStacks_at h]; rfl
def sp_stacks (K : PySem.W.Frag) : Sp := fun vs H Q _ => ∃ (a : Addr) (t : T), vs = [.ref a] ∧ SqT K H a (vi t.sch) ∧ t.size ≤ 60 ∧ ∀ H' p, Same H H' → Dp K H' (.ref p) (.tuple (dStacks t)) → Q (.ref p) H'
theorem ok_stacks (TX : Tx K mg) : FnOk P w K mg base CX0 5 TX.a_stacks TX.fd_stacks ["schedule"] (sp_stacks K) := by
  refine TX.f_stacks.ok sc_stacks (fun vs H Q E h => ?_) (fun cdv A outer s H vs Q E hr h => ?_)
  · obtain ⟨a, t, rfl, _⟩ := h; rfl
  · obtain ⟨a, t, rfl, hS, hz, q⟩ := h
    have hlen : (vi t.sch).length = t.size := by rw [vi_len, T.sch_len]
    refine ⟨_, (pss_cons (ps_if (pt_not (pt_val (pe_call (ok_is_schedule TX) (hr.mono (by decide)) (by rfl) TX.g_is_schedule TX.f_is_schedule.kp TX.bd_is_schedule .nil pass0 (pa_cons (pv 0) pa_nil))))
        (pss_one ps_never)
        pss_nil)
      (pss_cons (ps_set (i := 1) sc_stacks.nd rfl (.inl rfl) (pe_tup pa_nil))
      (pss_cons (ps_set (i := 2) sc_stacks.nd rfl (.inl rfl) (pe_lst pa_nil))
      (pss_cons (ps_for PassesOwn.never rfl (pi_enumT (by rfl) TX.b_enumerate (pa_cons (pv 0) pa_nil)) (pg_tup rfl (pgs_cons (pg_name (i := 3) sc_stacks.nd rfl (.inl rfl)) (pgs_cons (pg_name (i := 4) sc_stacks.nd rfl (.inl rfl)) pgs_nil)))
        (pss_cons (ps_set (i := 1) sc_stacks.nd rfl (.inl rfl) (pe_call (ok_stack_after TX) (hr.mono (by decide)) (by rfl) TX.g_stack_after TX.f_stack_after.kp TX.bd_stack_after .nil pass0 (pa_cons (pv 1) (pa_cons (pv 3) (pa_cons (pv 4) pa_nil)))))
        (pss_one (ps_expr (pe_bm PySem.F.plainAttrs_list PySem.F.slot_list_append PySem.F.type_list_append mt_append (pv 2) (pa_cons (pv 1) pa_nil))))))
      (pss_one (ps_ret (pe_callTy (T := "tuple") (k_tupOf (K := K) rfl) (by rfl) TX.b_tuple (by decide +kernel) (pa_cons (pv 2) pa_nil)))))))), ?_⟩
    refine ⟨.ref a, rfl, a, t, rfl, hS, hz, true, rfl, iteF ⟨sz60 (by simp), fun p0 n0 => ⟨sz60 (by simp), fun r nr => ?_⟩⟩⟩
    have s0 : Same H (upd H p0 (.tup [])) := same_upd n0
    have s1 : Same (upd H p0 (.tup [])) (upd (upd H p0 (.tup [])) r (.lst [])) := same_upd nr
    have nr0 : H r = none := s0.free nr
    refine ⟨.ref a, rfl, a, _, rfl, Same.tup (s0.trans s1) hS, for_it walk_enumT (fun i σ H' => ∃ p y3 y4 acc, σ = [some (.ref a), some (.ref p), some (.ref r), y3, y4] ∧ Same H H' ∧ Dp K H' (.ref p) (dStk ((pre t i).stk 0)) ∧ H' r = some (.lst acc) ∧ DpAll K H' acc ((dStacks t).take i))
      ⟨p0, none, none, [], rfl, s0.trans s1, .tup (Same.tup s1 (.inl (.inl upd_same))) .nil, upd_same, .nil⟩ (fun i σ H' _ ⟨_, _, _, _, _, h, _⟩ => Same.tup h hS) ?_ ?_⟩
    · rintro i x σ H1 H2 hi ⟨p, y3, y4, acc, rfl, sm, hp, hr', hA⟩ hy
      obtain ⟨Tp, x1, x2, rfl, nT, rfl, e1, e2⟩ := hy
      cases e1
      have hi' : i < t.sch.length := by rw [vi_len] at hi; exact hi
      have hm := List.getElem?_eq_getElem hi'
      replace e2 : (vi t.sch)[i]? = some x2 := e2
      rw [vi_get hm] at e2
      cases e2
      have hi2 : i < t.size := by rw [← T.sch_len]; exact hi'
      obtain ⟨f1, f2⟩ := pre_succ hm
      have sT : Same H1 (upd H1 Tp (.tup [.int (i : Nat), .int (t.sch[i] : Int)])) := same_upd nT
      refine ⟨Tp, _, rfl, .inl (.inl upd_same), rfl, _, _, rfl, _, [], rfl, rfl, ?_⟩
      refine ⟨.ref p, rfl, .int (i : Nat), rfl, .int (t.sch[i] : Int), rfl, p, pre t i, t.sch[i], ?_, Dp.same sT hp, f2, by rw [pre_size (by omega)]; omega, fun H3 p3 s3 h3 => ?_⟩
      · rw [pre_size (by omega)]; rfl
      · rw [← f1] at h3
        have hr3 := s3 _ _ (sT _ _ hr')
        have hlA := DpAll.len hA
        rw [List.length_take, dStacks_len] at hlA
        refine ⟨.ref r, rfl, .inl ⟨rfl, _, .inl (.inl hr3)⟩, .ref p3, rfl, r, _, _, rfl, rfl, hr3, sz61 (by omega), ?_⟩
        have kp : Keep K H3 (upd H3 r (.lst (acc ++ [.ref p3]))) := But.keep But.upd hr3
        refine ⟨p3, some (.int (i : Nat)), some (.int (t.sch[i] : Int)), acc ++ [.ref p3], rfl, Same.mut ((sm.trans sT).trans s3) nr0, Dp.keep kp (tf_stk _) h3, upd_same, ?_⟩
        rw [dStacks_take hi2]
        refine DpAll.keep kp (fun d h => ?_) (DpAll.append (DpAll.same (sT.trans s3) hA) (.cons h3 .nil))
        rw [← dStacks_take hi2] at h
        exact tf_stacks t d (List.mem_of_mem_take h)
    · rintro σ H' ⟨p, y3, y4, acc, rfl, sm, hp, hr', hA⟩
      rw [hlen, List.take_of_length_le (by rw [dStacks_len]; omega)] at hA
      refine ⟨.ref r, rfl, r, acc, rfl, .inl ⟨.inl (.inl hr'), fun l nl => ?_⟩⟩
      exact q _ l (sm.trans (same_upd nl)) (.tup (.inl (.inl upd_same)) (DpAll.same (same_upd nl) hA))
end
section
variable {P : Program} {w : World} {K : PySem.W.Frag} {mg : Str → Option Value} {base : Heap}
def sp_writes (K : PySem.W.Frag) : Sp := fun vs H Q _ => ∃ (a : Addr) (t : T), vs = [.ref a] ∧ SqT K H a (vi t.sch) ∧ t.size ≤ 60 ∧ ∀ H' p, Same H H' → SqT K H' p (vi t.wr) → Q (.ref p) H'
theorem ok_writes (TX : Tx K mg) : FnOk P w K mg base CX0 6 TX.a_writes TX.fd_writes ["schedule"] (sp_writes K) := by
  refine TX.f_writes.ok sc_writes (fun vs H Q E h => ?_) (fun cdv A outer s H vs Q E hr h => ?_)
  · obtain ⟨a, t, rfl, _⟩ := h; rfl
  · obtain ⟨a, t, rfl, hS, hz, q⟩ := h
    refine ⟨_, (pss_cons (ps_set (i := 1) sc_writes.nd rfl (.inl rfl) (pe_call (ok_stacks TX) (hr.mono (by decide)) (by rfl) TX.g_stacks TX.f_stacks.kp TX.bd_stacks .nil pass0 (pa_cons (pv 0) pa_nil)))
      (pss_cons (ps_set (i := 2) sc_writes.nd rfl (.inl rfl) (pe_op op_rep (pe_lst (pa_cons pe_int pa_nil)) (pe_callB (id := "len") (k_len (K := K) rfl) (by rfl) TX.b_len (by decide +kernel) (pa_cons (pv 1) pa_nil))))
      (pss_cons (ps_for PassesOwn.never rfl (k_piT (K := K) rfl (pv 1)) (pg_name (i := 3) sc_writes.nd rfl (.inl rfl))
        (pss_cons (ps_asg (pe_ix (k_ixT (K := K) rfl) (pv 3) (pe_un un_neg pe_int) (fun _ _ => rfl)) (pg_tup rfl (pgs_cons (pg_name (i := 4) sc_writes.nd rfl (.inl rfl)) (pgs_cons (pg_name (i := 5) sc_writes.nd rfl (.inl rfl)) pgs_nil))))
        (pss_one (ps_for PassesOwn.never rfl (pi_range2 (by rfl) TX.b_range (pa_cons (pv 4) (pa_cons (pv 5) pa_nil))) (pg_name (i := 6) sc_writes.nd rfl (.inl rfl))
          (pss_one (ps_augS (pv 2) (pv 6) get_list pe_int ip_add set_list))))))
      (pss_one (ps_ret (pe_callTy (T := "tuple") (k_tupOf (K := K) rfl) (by rfl) TX.b_tuple (by decide +kernel) (pa_cons (pv 2) pa_nil))))))), ?_⟩
    refine ⟨.ref a, rfl, a, t, rfl, hS, hz, fun H1 p1 s1 h1 => ?_⟩
    obtain ⟨p1', xs, e, hX, hA⟩ := Dp.tupInv h1
    cases e
    have hl := DpAll.len hA
    rw [dStacks_len] at hl
    refine ⟨sz60 (by simp), fun z nz => ?_⟩
    have s2 : Same H1 (upd H1 z (.lst [.int 0])) := same_upd nz
    refine ⟨.ref p1, rfl, p1, xs, rfl, .inr (Same.tup s2 hX), z, _, _, rfl, rfl, upd_same, by omega, by omega, sz60 (by simp; omega), fun l nl => ?_⟩
    have s3 := same_upd (o := .lst (List.replicate ((xs.length : Int)).toNat [V.int 0]).flatten) nl
    have ec : (List.replicate ((xs.length : Int)).toNat [V.int 0]).flatten = vi (List.replicate t.size 0) := by
      rw [vi_rep, Int.toNat_natCast, hl, List.flatten_replicate_singleton]; rfl
    rw [ec] at s3 ⊢
    have hX3 := Same.tup (s2.trans s3) hX
    have hA3 := DpAll.same (s2.trans s3) hA
    have nl1 : H1 l = none := s2.free nl
    generalize hH3 : upd (upd H1 z (HO.lst [V.int 0])) l (HO.lst (vi (List.replicate t.size 0))) = H3 at s3 hX3 hA3 ⊢
    have hl3 : H3 l = some (.lst (vi (List.replicate t.size 0))) := by rw [← hH3]; exact upd_same
    have s13 : Same H1 H3 := s2.trans s3
    refine ⟨.ref p1, rfl, p1, rfl, ⟨_, hX3⟩, for_tup (K := K) (xs := xs) (fun i σ H' => ∃ y3 y4 y5 y6 c, σ = [some (.ref a), some (.ref p1), some (.ref l), y3, y4, y5, y6] ∧ Same H1 H' ∧ H' l = some (.lst (vi c)) ∧ c.length = t.size ∧ ∀ k, k < t.size → c[k]? = some ((pre t i).wr.getD k 0))
      ⟨none, none, none, none, List.replicate t.size 0, rfl, s13, hl3, by simp, fun k hk => by rw [List.getElem?_replicate, if_pos hk]; rfl⟩ (fun i σ H' _ ⟨_, _, _, _, _, _, h, _⟩ => Same.tup h hX) ?_ ?_⟩
    · rintro i x σ H4 hx ⟨y3, y4, y5, y6, c, rfl, s4, hc, hcl, hcv⟩
      have hi : i < t.size := by rw [← hl]; exact (List.getElem?_eq_some_iff.mp hx).1
      obtain ⟨m, hm⟩ : ∃ m, t.sch[i]? = some m := ⟨_, List.getElem?_eq_getElem (show i < t.sch.length by rw [T.sch_len]; exact hi)⟩
      obtain ⟨f1, f2⟩ := pre_succ hm
      have fs := T.start_le _ _ f2
      rw [pre_size (by omega)] at fs
      obtain ⟨v, g1, g2⟩ := DpAll.get (DpAll.same s4 hA) (dStacks_at hi)
      rw [hx] at g1
      cases g1
      obtain ⟨b, us, rfl, g3, g4⟩ := Dp.tupInv g2
      rw [stk_last hm, List.map_append] at g4
      obtain ⟨us', v', rfl, _, g5⟩ := DpAll.snoc g4
      obtain ⟨b', e5, g6⟩ := Dp.intsInv (ns := [((pre t i).start m : Int), ((i + 1 : Nat) : Int)]) g5
      cases e5
      refine ⟨.ref b, rfl, _, rfl, b, _, -1, _, rfl, rfl, g3, atI_last _ _, b', _, rfl, g6, rfl, _, _, rfl, _, [], rfl, rfl, ?_⟩
      refine ⟨_, rfl, _, rfl, _, _, rfl, ⟨by omega, by omega, by omega, by omega⟩, for_range (lo := ((pre t i).start m : Int)) (n := (((i + 1 : Nat) : Int) - ((pre t i).start m : Int)).toNat)
        (fun j σ H' => ∃ y6 c, σ = [some (.ref a), some (.ref p1), some (.ref l), some (.ref b), some (.int ((pre t i).start m : Int)), some (.int ((i + 1 : Nat) : Int)), y6] ∧ Same H1 H' ∧ H' l = some (.lst (vi c)) ∧ c.length = t.size ∧ ∀ k, k < t.size → c[k]? = some (if (pre t i).start m ≤ k ∧ k < (pre t i).start m + j then (pre t i).wr.getD k 0 + 1 else (pre t i).wr.getD k 0))
        ⟨y6, c, rfl, s4, hc, hcl, fun k hk => by rw [if_neg (by omega)]; exact hcv k hk⟩ ?_ ?_⟩
      · rintro j σ H5 hj ⟨y6, c, rfl, s5, hc, hcl, hcv⟩
        have hj2 : (pre t i).start m + j < t.size := by omega
        have e1 : ((pre t i).start m : Int) + (j : Int) = (((pre t i).start m + j : Nat) : Int) := by omega
        have h6 := hcv _ hj2
        rw [if_neg (by omega)] at h6
        rw [e1]
        refine ⟨.ref l, rfl, _, rfl, l, _, _, _, rfl, rfl, .inl (.inl hc), at_vi h6, _, _, rfl, rfl, l, _, _, _, rfl, rfl, hc, ixN_of (by rw [vi_len]; omega), ?_⟩
        have e2 : (((pre t i).wr.getD ((pre t i).start m + j) 0 : Nat) : Int) + 1 = (((pre t i).wr.getD ((pre t i).start m + j) 0 + 1 : Nat) : Int) := by omega
        refine ⟨_, c.set ((pre t i).start m + j) ((pre t i).wr.getD ((pre t i).start m + j) 0 + 1), rfl, Same.mut s5 nl1, ?_, by rw [List.length_set]; exact hcl, fun k hk => ?_⟩
        · rw [← vi_set, ← e2]; exact upd_same
        · by_cases hk2 : (pre t i).start m + j = k
          · rw [← hk2, List.getElem?_set_self (by omega), if_pos (by omega)]
          · rw [List.getElem?_set_ne hk2, hcv k hk]
            by_cases hk3 : (pre t i).start m ≤ k ∧ k < (pre t i).start m + j
            · rw [if_pos hk3, if_pos (by omega)]
            · rw [if_neg hk3, if_neg (by omega)]
      · rintro σ H5 ⟨y6, c, rfl, s5, hc, hcl, hcv⟩
        refine ⟨_, _, _, y6, c, rfl, s5, hc, hcl, fun k hk => ?_⟩
        rw [hcv k hk, f1, wr_step f2, pre_size (by omega)]
        by_cases hk3 : (pre t i).start m ≤ k ∧ k < i + 1
        · rw [if_pos (by omega), if_pos hk3]
        · rw [if_neg (by omega), if_neg hk3]
    · rintro σ H4 ⟨y3, y4, y5, y6, c, rfl, s4, hc, hcl, hcv⟩
      rw [hl, pre_all] at hcv
      have ecw : c = t.wr := list_by (by rw [hcl, T.wr_len]) fun k hk => hcv k (by omega)
      rw [ecw] at hc
      refine ⟨.ref l, rfl, l, _, rfl, .inl ⟨.inl (.inl hc), fun o no => ?_⟩⟩
      exact q _ o ((s1.trans s4).trans (same_upd no)) (.inl (.inl upd_same))
def sp_run_counts (K : PySem.W.Frag) : Sp := fun vs H Q _ => ∃ (a : Addr) (t : T), vs = [.ref a] ∧ SqT K H a (vi t.sch) ∧ t.size ≤ 60 ∧ ∀ H' p, Same H H' → SqT K H' p (vi t.rc) → Q (.ref p) H'
theorem ok_run_counts (TX : Tx K mg) : FnOk P w K mg base CX0 6 TX.a_run_counts TX.fd_run_counts ["schedule"] (sp_run_counts K) := by
  refine TX.f_run_counts.ok sc_run_counts (fun vs H Q E h => ?_) (fun cdv A outer s H vs Q E hr h => ?_)
  · obtain ⟨a, t, rfl, _⟩ := h; rfl
  · obtain ⟨a, t, rfl, hS, hz, q⟩ := h
    refine ⟨_, (pss_one (ps_ret (pe_callTy (T := "tuple") (k_tupOf (K := K) rfl) (by rfl) TX.b_tuple (by decide +kernel) (pa_cons (pe_lc (own := [("stack", 1)]) (by rfl) sc_run_counts.nd (k_piT (K := K) rfl (pe_call (ok_stacks TX) (hr.mono (by decide)) (by rfl) TX.g_stacks TX.f_stacks.kp TX.bd_stacks .nil pass0 (pa_cons (pv 0) pa_nil))) (blkOk_by (own := [("stack", 1)]) (N := N_run_counts) (sc := defScope s_run_counts) (by decide +kernel)) (fun _ _ _ _ _ => (pg_name (i := 1) sc_run_counts.nd rfl (Or.inl rfl))) (fun _ _ _ _ _ => pts_nil) (fun _ _ _ _ _ => (pe_callB (id := "len") (k_len (K := K) rfl) (by rfl) TX.b_len (by decide +kernel) (pa_cons (pv 1) pa_nil)))) pa_nil)))), ?_⟩
    refine ⟨.ref a, rfl, a, t, rfl, hS, hz, fun H1 p1 s1 h1 => ?_⟩
    obtain ⟨p1', xs, e, hX, hA⟩ := Dp.tupInv h1
    cases e
    have hl := DpAll.len hA
    rw [dStacks_len] at hl
    refine ⟨p1, rfl, ⟨_, hX⟩, fun D nD => lc_all (K := K) walk_tup ((ci t.rc).map PyData.int) (by rw [List.length_map, ci, List.length_map, T.rc_len, hl]) (tf_ints _) (by omega) nD (fun H' s' => Same.tup s' hX) ?_ ?_ (fun x σ' H' Q Q' h => h _ _) (fun σ' H' Q Q' h => h _ _)⟩
    · rintro i x H2 H2' hi s2 ⟨rfl, hx⟩ d hd R hR
      have hi2 : i < t.size := by omega
      obtain ⟨v, g1, g2⟩ := DpAll.get (DpAll.same s2 hA) (dStacks_at hi2)
      rw [hx] at g1
      cases g1
      obtain ⟨b, us, rfl, g3, g4⟩ := Dp.tupInv g2
      have hl4 := DpAll.len g4
      rw [List.length_map, T.stk_len] at hl4
      refine ⟨rfl, rfl, .ref b, rfl, b, us, rfl, .inr g3, hR _ _ (Same.refl _) ?_⟩
      have e := pre_runs hi2
      rw [List.getElem?_map, ci, List.getElem?_map, e] at hd
      cases hd
      rw [hl4]
      exact .int _
    · intro H2 acc s2 ha hAcc
      rw [dp_ints_inv hAcc] at ha
      refine ⟨D, _, rfl, .inl ⟨.inl (.inl ha), fun o no => ?_⟩⟩
      refine q _ o ((s1.trans s2).trans (same_upd no)) (.inl (.inl ?_))
      rw [vi_ci]; exact upd_same
end
def dIt (x : Nat × T × Nat × Int) : PyData := .tuple [.int (x.1 : Int), .int ((x.1 + x.2.1.size : Nat) : Int), .int (x.2.2.1 : Int), .int x.2.2.2]
theorem tf_it (x : Nat × T × Nat × Int) : Tf (dIt x) := .tup (tf_ints [(x.1 : Int), ((x.1 + x.2.1.size : Nat) : Int), (x.2.2.1 : Int), x.2.2.2])
theorem tf_its (L : List (Nat × T × Nat × Int)) : ∀ d, d ∈ L.map dIt → Tf d := fun d h => by
  obtain ⟨x, _, rfl⟩ := List.mem_map.mp h
  exact tf_it x
theorem snoc_cases {α : Type} (L : List α) : L = [] ∨ ∃ M x, L = M ++ [x] := by
  rcases List.eq_nil_or_concat L with h | ⟨M, x, h⟩
  · exact .inl h
  · exact .inr ⟨M, x, by rw [h, List.concat_eq_append]⟩
theorem int_list_by {c d : List Int} (h : ∀ k, k < d.length → c[k]? = d[k]?) (hl : c.length = d.length) : c = d := by
  refine List.ext_getElem? fun k => ?_
  by_cases hk : k < d.length
  · exact h k hk
  · rw [List.getElem?_eq_none (by omega), List.getElem?_eq_none (by omega)]
def TreeInv (K : PySem.W.Frag) (t : T) (H1 : Hp) (a p1 l w : Addr) (m : Nat) (σ : L2.St) (H' : Hp) : Prop :=
  ∃ (y4 y5 y6 y7 y8 y9 : Option V) (WL : List (Nat × T × Nat × Int)) (acc : List V) (c : List Int), σ = [some (.ref a), some (.ref p1), some (.ref l), some (.ref w), y4, y5, y6, y7, y8, y9] ∧ m = todo WL ∧ Same H1 H' ∧ H' l = some (.lst (c.map V.int)) ∧ c.length = t.size ∧ H' w = some (.lst acc) ∧ DpAll K H' acc (WL.map dIt) ∧
    (∀ x, x ∈ WL → Sub t x.1 x.2.1 x.2.2.1 x.2.2.2) ∧ (∀ k, k < t.size → (∀ x, x ∈ WL → ¬ (x.1 ≤ k ∧ k < x.1 + x.2.1.size)) → c[k]? = t.parOf[k]?) ∧ todo WL ≤ 2 * t.size + 1
section
variable {P : Program} {w : World} {K : PySem.W.Frag} {mg : Str → Option Value} {base : Heap}
def sp_tree_of (K : PySem.W.Frag) : Sp := fun vs H Q _ => ∃ (a : Addr) (t : T), vs = [.ref a] ∧ SqT K H a (vi t.sch) ∧ t.size ≤ 60 ∧ ∀ H' p o, Same H H' → H' p = some (.frz o (.tup (t.parOf.map V.int))) → o.dict = none → Q (.ref p) H'
theorem ok_tree_of (TX : Tx K mg) : FnOk P w K mg base CX0 7 TX.a_tree_of TX.fd_tree_of ["schedule"] (sp_tree_of K) := by
  refine TX.f_tree_of.ok sc_tree_of (fun vs H Q E h => ?_) (fun cdv A outer s H vs Q E hr h => ?_)
  · obtain ⟨a, t, rfl, _⟩ := h; rfl
  · obtain ⟨a, t, rfl, hS, hz, q⟩ := h
    refine ⟨_, (pss_cons (ps_set (i := 1) sc_tree_of.nd rfl (.inr rfl) (pe_call (ok_run_counts TX) (hr.mono (by decide)) (by rfl) TX.g_run_counts TX.f_run_counts.kp TX.bd_run_counts .nil pass0 (pa_cons (pv 0) pa_nil)))
      (pss_cons (ps_set (i := 2) sc_tree_of.nd rfl (.inl rfl) (pe_op op_rep (pe_lst (pa_cons (pe_glob (v := .int (-1)) (by rfl) TX.c_NO_PARENT ⟨_, rfl⟩) pa_nil)) (pe_callB (id := "len") (k_len (K := K) rfl) (by rfl) TX.b_len (by decide +kernel) (pa_cons (pv 1) pa_nil))))
      (pss_cons (ps_set (i := 3) sc_tree_of.nd rfl (.inl rfl) (pe_lst (pa_cons (pe_tup (pa_cons pe_int (pa_cons (pe_callB (id := "len") (k_len (K := K) rfl) (by rfl) TX.b_len (by decide +kernel) (pa_cons (pv 1) pa_nil)) (pa_cons pe_int (pa_cons (pe_glob (v := .int (-1)) (by rfl) TX.c_NO_PARENT ⟨_, rfl⟩) pa_nil))))) pa_nil)))
      (pss_cons (ps_while PassesOwn.never (pt_truth (pv 3) (by intro _; rfl))
        (pss_cons (ps_asg (pe_bm0 PySem.F.plainAttrs_list PySem.F.slot_list_pop PySem.F.type_list_pop mt_pop (pv 3)) (pg_tup rfl (pgs_cons (pg_name (i := 4) sc_tree_of.nd rfl (.inl rfl)) (pgs_cons (pg_name (i := 5) sc_tree_of.nd rfl (.inl rfl)) (pgs_cons (pg_name (i := 6) sc_tree_of.nd rfl (.inr rfl)) (pgs_cons (pg_name (i := 7) sc_tree_of.nd rfl (.inl rfl)) pgs_nil))))))
        (pss_cons (ps_if (pt_cmpR op_eq (pv 4) (pv 5) (nomark _))
          (pss_one ps_continue)
          pss_nil)
        (pss_cons (ps_set (i := 8) sc_tree_of.nd rfl (.inl rfl) (pe_callB (id := "max") (cr_max rfl) (by rfl) TX.b_max (by decide +kernel) (pa_cons (pe_lc (own := [("flush", 9)]) (by rfl) sc_tree_of.nd (pi_range2 (by rfl) TX.b_range (pa_cons (pv 4) (pa_cons (pv 5) pa_nil))) (blkOk_by (own := [("flush", 9)]) (N := N_tree_of) (sc := defScope s_tree_of) (by decide +kernel)) (fun _ _ _ _ _ => (pg_name (i := 9) sc_tree_of.nd rfl (Or.inl rfl))) (fun _ _ _ _ _ => (pts_one (pt_cmpR op_eq (pe_ix (k_ixT (K := K) rfl) (pv 1) (pv 9) (fun _ _ => rfl)) (pv 6) (nomark _)))) (fun _ _ _ _ _ => (pv 9))) pa_nil)))
        (pss_cons (ps_asg (pv 7) (pg_sub (pv 2) (pv 8) set_list))
        (pss_cons (ps_expr (pe_bm PySem.F.plainAttrs_list PySem.F.slot_list_append PySem.F.type_list_append mt_append (pv 3) (pa_cons (pe_tup (pa_cons (pv 4) (pa_cons (pv 8) (pa_cons (pv 6) (pa_cons (pv 8) pa_nil))))) pa_nil)))
        (pss_one (ps_expr (pe_bm PySem.F.plainAttrs_list PySem.F.slot_list_append PySem.F.type_list_append mt_append (pv 3) (pa_cons (pe_tup (pa_cons (pe_op op_add (pv 8) pe_int) (pa_cons (pv 5) (pa_cons (pe_op op_add (pv 6) pe_int) (pa_cons (pv 8) pa_nil))))) pa_nil))))))))))
      (pss_one (ps_ret (pe_callTy (T := "tuple") (k_tupOfZ (K := K) rfl) (by rfl) TX.b_tuple (by decide +kernel) (pa_cons (pv 2) pa_nil)))))))), ?_⟩
    refine ⟨.ref a, rfl, a, t, rfl, hS, hz, fun H1 p1 s1 h1 => ?_⟩
    have hl : (vi t.rc).length = t.size := by rw [vi_len, T.rc_len]
    refine ⟨sz60 (by simp), fun z nz => ?_⟩
    have s2 : Same H1 (upd H1 z (.lst [.int (-1)])) := same_upd nz
    refine ⟨.ref p1, rfl, p1, _, rfl, .inr (Same.tup s2 h1), z, _, _, rfl, rfl, upd_same, by omega, by omega, sz60 (by simp; omega), fun l nl => ?_⟩
    have s3 := same_upd (o := .lst (List.replicate (((vi t.rc).length : Int)).toNat [V.int (-1)]).flatten) nl
    have ec : (List.replicate (((vi t.rc).length : Int)).toNat [V.int (-1)]).flatten = (List.replicate t.size (-1 : Int)).map V.int := by
      rw [Int.toNat_natCast, hl, List.flatten_replicate_singleton, List.map_replicate]
    rw [ec] at s3 ⊢
    have nl1 : H1 l = none := s2.free nl
    generalize hH3 : upd (upd H1 z (HO.lst [V.int (-1)])) l (HO.lst ((List.replicate t.size (-1 : Int)).map V.int)) = H3 at s3 ⊢
    have hl3 : H3 l = some (.lst ((List.replicate t.size (-1 : Int)).map V.int)) := by rw [← hH3]; exact upd_same
    have s13 : Same H1 H3 := s2.trans s3
    have h13 := Same.tup s13 h1
    refine ⟨.ref p1, rfl, p1, _, rfl, .inr h13, sz60 (by simp), fun u nu => ⟨sz60 (by simp), fun w nw => ?_⟩⟩
    have s4 := same_upd (o := .tup [.int 0, .int ((vi t.rc).length : Int), .int 1, .int (-1)]) nu
    have s5 := same_upd (o := .lst [.ref u]) nw
    have nw1 : H1 w = none := s13.free (s4.free nw)
    have nwl : w ≠ l := fun e => by
      have := s4.free nw
      rw [e, hl3] at this; cases this
    refine ⟨TreeInv K t H1 a p1 l w, ⟨_, none, none, none, none, none, none, [(0, t, 1, -1)], [.ref u], List.replicate t.size (-1 : Int), rfl, rfl, (s13.trans s4).trans s5, s5 _ _ (s4 _ _ hl3), by simp, upd_same, ?_, ?_, ?_, ?_⟩, ?_⟩
    · refine .cons (.tup (Same.tup s5 (.inl (.inl upd_same))) ?_) .nil
      rw [hl]
      have := dp_ints (K := K) (H := upd (upd H3 u (.tup [.int 0, .int (t.size : Int), .int 1, .int (-1)])) w (.lst [.ref u])) [0, (t.size : Int), 1, -1]
      simpa using this
    · intro x hx
      have e : x = (0, t, 1, -1) := by simpa using hx
      rw [e]; exact .root
    · intro k hk h
      exact absurd ⟨Nat.zero_le _, by simpa using hk⟩ (h (0, t, 1, -1) (by simp))
    · simp [todo]
    · rintro m σ H4 ⟨y4, y5, y6, y7, y8, y9, WL, acc, c, rfl, rfl, sm, hc, hcl, hw, hA, hSub, hDone, hlen⟩
      refine ⟨.ref w, rfl, _, .inl ⟨acc, .inl (.inl hw), rfl⟩, ?_⟩
      rcases snoc_cases WL with rfl | ⟨WL, x, rfl⟩
      · -- the end
        cases hA
        refine iteF ?_
        have e : c = t.parOf := int_list_by (fun k hk => hDone k (by rw [T.parOf, T.par_len] at hk; exact hk) (fun x hx => by cases hx)) (by rw [hcl, T.parOf, T.par_len])
        rw [e] at hc
        refine ⟨.ref l, rfl, l, _, rfl, .inl (.inl hc), fun o ob no hd => ?_⟩
        exact q _ o ob ((s1.trans sm).trans (same_upd no)) upd_same hd
      · rw [List.map_append] at hA
        obtain ⟨us, v, rfl, hA1, hv⟩ := DpAll.snoc hA
        have hus := DpAll.len hA1
        rw [List.length_map] at hus
        obtain ⟨off, sb, k, p⟩ := x
        have hsub : Sub t off sb k p := hSub (off, sb, k, p) (by simp)
        have hsl := sub_le hsub
        obtain ⟨b, e, hb⟩ := Dp.intsInv (ns := [(off : Int), ((off + sb.size : Nat) : Int), (k : Int), p]) hv
        cases e
        have ne : (!(us ++ [V.ref b]).isEmpty) = true := by simp
        rw [ne]
        refine iteT ⟨fun σ' H' => ∃ m', m' < todo (WL ++ [(off, sb, k, p)]) ∧ TreeInv K t H1 a p1 l w m' σ' H', fun σ' H' h => h, ?_⟩
        have kp : Keep K H4 (upd H4 w (.lst us)) := But.keep But.upd hw
        have hdl : (us ++ [V.ref b]).dropLast = us := by simp
        refine ⟨.ref w, rfl, .inl ⟨rfl, _, .inl (.inl hw)⟩, w, _, .ref b, rfl, rfl, hw, by simp, ?_⟩
        rw [hdl]
        have sm5 : Same H1 (upd H4 w (.lst us)) := Same.mut sm nw1
        have hc5 : (upd H4 w (.lst us)) l = some (.lst (c.map V.int)) := by rw [upd_ne nwl.symm]; exact hc
        have hA5 := DpAll.keep kp (tf_its WL) hA1
        have hb5 := kp _ _ hb
        generalize hH5 : upd H4 w (.lst us) = H5 at kp sm5 hc5 hA5 hb5 ⊢
        have hw5 : H5 w = some (.lst us) := by rw [← hH5]; exact upd_same
        refine ⟨b, _, rfl, hb5, rfl, _, _, rfl, _, _, rfl, _, _, rfl, _, [], rfl, rfl, ?_⟩
        refine ⟨_, rfl, _, rfl, rfl, _, rfl, ite2 (fun e => ?_) (fun e => ?_)⟩
        · -- an empty interval
          have e0 : (off : Int) = ((off + sb.size : Nat) : Int) := V.int.inj (of_decide_eq_true e)
          have es : sb.size = 0 := by omega
          refine ⟨todo WL, by rw [todo_app]; simp [todo], _, _, _, _, _, _, WL, us, c, rfl, rfl, sm5, hc5, hcl, hw5, hA5, fun x hx => hSub x (List.mem_append_left _ hx), fun j hj h => hDone j hj fun x hx => ?_, ?_⟩
          · rcases List.mem_append.mp hx with hx | hx
            · exact h x hx
            · have e : x = (off, sb, k, p) := by simpa using hx
              rw [e]; show ¬ (off ≤ j ∧ j < off + sb.size); omega
          · rw [todo_app] at hlen; simp [todo] at hlen; omega
        · have es : sb.size ≠ 0 := fun z => e (decide_eq_true (by rw [z]; rfl))
          cases sb with
          | nil => exact absurd rfl es
          | node lf rt =>
            have hsz : (T.node lf rt).size = lf.size + 1 + rt.size := rfl
            have nn : (((off + (T.node lf rt).size : Nat) : Int) - (off : Int)).toNat = (T.node lf rt).size := by omega
            -- root = max([..])
            refine ⟨_, rfl, _, rfl, _, _, rfl, ⟨by omega, by omega, by omega, by omega⟩, fun D nD => ?_⟩
            rw [nn]
            refine lc_fil (lo := (off : Int)) (j := 9) (fun i => decide (V.int ((t.rc.getD (off + i) 0 : Nat) : Int) = V.int (k : Int))) (by omega) nD (fun x => rfl) (fun x => rfl) (fun i H6 Q6 hi s6 q6 => ?_) (fun H6 s6 hD6 => ?_)
            · have ea : (t.rc)[off + i]? = some (t.rc.getD (off + i) 0) := by
                rw [List.getD_eq_getElem?_getD, List.getElem?_eq_getElem (by rw [T.rc_len]; omega)]; rfl
              have ei : (off : Int) + (i : Nat) = ((off + i : Nat) : Int) := by omega
              rw [ei]
              exact ⟨.ref p1, rfl, _, rfl, p1, _, _, _, rfl, rfl, Same.tup (sm5.trans s6) h1, at_vi ea, _, rfl, rfl, _, rfl, q6⟩
            · have em : ((List.range (T.node lf rt).size).filter fun i => decide (V.int ((t.rc.getD (off + i) 0 : Nat) : Int) = V.int (k : Int))).map (fun (i : Nat) => V.int ((off : Int) + (i : Nat))) = (((List.range (T.node lf rt).size).filter fun i => decide (V.int ((t.rc.getD (off + i) 0 : Nat) : Int) = V.int (k : Int))).map (fun (i : Nat) => (off : Int) + (i : Nat))).map V.int := by rw [List.map_map]; rfl
              rw [em] at hD6
              have fT : ∀ i, i < (T.node lf rt).size → (decide (V.int ((t.rc.getD (off + i) 0 : Nat) : Int) = V.int (k : Int)) = true ↔ (T.node lf rt).rc[i]? = some 1) := fun i hi => by
                obtain ⟨v, hv1, hv2⟩ := sub_rc_at hsub hi
                have hv3 := rc_pos _ _ _ hv1
                rw [List.getD_eq_getElem?_getD, hv2, decide_eq_true_iff]
                constructor
                · intro h
                  have h2 := V.int.inj h
                  simp only [Option.getD_some] at h2
                  rw [hv1]; congr 1; omega
                · intro h
                  rw [hv1] at h
                  cases h
                  simp only [Option.getD_some]
                  congr 1
                  omega
              have hroot : (off : Int) + (lf.size : Nat) ∈ ((List.range (T.node lf rt).size).filter fun i => decide (V.int ((t.rc.getD (off + i) 0 : Nat) : Int) = V.int (k : Int))).map (fun (i : Nat) => (off : Int) + (i : Nat)) :=
                List.mem_map.mpr ⟨lf.size, List.mem_filter.mpr ⟨List.mem_range.mpr (by omega), (fT _ (by omega)).mpr (rc_root lf rt)⟩, rfl⟩
              refine ⟨D, _, rfl, .inl (.inl hD6), List.length_pos_of_mem hroot, fun mx hmx hle => ?_⟩
              have emx : mx = ((off + lf.size : Nat) : Int) := by
                obtain ⟨i, hi, rfl⟩ := List.mem_map.mp hmx
                obtain ⟨hi1, hi2⟩ := List.mem_filter.mp hi
                have hi3 := rc_one ((fT i (List.mem_range.mp hi1)).mp hi2)
                have := hle _ hroot
                omega
              subst emx
              have hc6 := s6 _ _ hc5
              have hw6 := s6 _ _ hw5
              have hA6 := DpAll.same s6 hA5
              have sm6 := sm5.trans s6
              -- parents[root] = parent
              refine ⟨_, rfl, .ref l, rfl, _, rfl, l, _, _, off + lf.size, rfl, rfl, hc6, ixN_of (by rw [List.length_map, hcl]; omega), ?_⟩
              have ecs : ((c.map V.int).set (off + lf.size) (V.int p)) = (c.set (off + lf.size) p).map V.int := by rw [List.map_set]
              rw [ecs]
              have kp7 : Keep K H6 (upd H6 l (.lst ((c.set (off + lf.size) p).map V.int))) := But.keep But.upd hc6
              have sm7 : Same H1 (upd H6 l (.lst ((c.set (off + lf.size) p).map V.int))) := Same.mut sm6 nl1
              have hA7 := DpAll.keep kp7 (tf_its WL) hA6
              have hw7 : (upd H6 l (.lst ((c.set (off + lf.size) p).map V.int))) w = some (.lst us) := by rw [upd_ne nwl]; exact hw6
              generalize hH7 : upd H6 l (.lst ((c.set (off + lf.size) p).map V.int)) = H7 at kp7 sm7 hA7 hw7 ⊢
              have hc7 : H7 l = some (.lst ((c.set (off + lf.size) p).map V.int)) := by rw [← hH7]; exact upd_same
              have hlw : WL.length ≤ 300 := by
                have := len_todo WL
                rw [todo_app] at hlen; omega
              -- the left subtree
              refine ⟨.ref w, rfl, .inl ⟨rfl, _, .inl (.inl hw7)⟩, _, rfl, _, rfl, _, rfl, _, rfl, sz60 (by simp), fun u1 nu1 => ?_⟩
              have s8 := same_upd (o := .tup [V.int (off : Int), V.int ((off + lf.size : Nat) : Int), V.int (k : Int), V.int ((off + lf.size : Nat) : Int)]) nu1
              have hw8 := s8 _ _ hw7
              refine ⟨w, _, _, rfl, rfl, hw8, sz61 (by omega), ?_⟩
              have hu8 : Dp K (upd H7 u1 (.tup [V.int (off : Int), V.int ((off + lf.size : Nat) : Int), V.int (k : Int), V.int ((off + lf.size : Nat) : Int)])) (.ref u1) (dIt (off, lf, k, ((off + lf.size : Nat) : Int))) :=
                .tup (.inl (.inl upd_same)) (dp_ints [(off : Int), ((off + lf.size : Nat) : Int), (k : Int), ((off + lf.size : Nat) : Int)])
              have hA8 : DpAll K (upd H7 u1 (.tup [V.int (off : Int), V.int ((off + lf.size : Nat) : Int), V.int (k : Int), V.int ((off + lf.size : Nat) : Int)])) (us ++ [.ref u1]) ((WL ++ [(off, lf, k, ((off + lf.size : Nat) : Int))]).map dIt) := by
                rw [List.map_append]; exact DpAll.append (DpAll.same s8 hA7) (.cons hu8 .nil)
              have hc8 := s8 _ _ hc7
              have sm8 := sm7.trans s8
              generalize upd H7 u1 (.tup [V.int (off : Int), V.int ((off + lf.size : Nat) : Int), V.int (k : Int), V.int ((off + lf.size : Nat) : Int)]) = H8 at s8 hw8 hA8 hc8 sm8 ⊢
              have kp9 : Keep K H8 (upd H8 w (.lst (us ++ [.ref u1]))) := But.keep But.upd hw8
              have sm9 : Same H1 (upd H8 w (.lst (us ++ [.ref u1]))) := Same.mut sm8 nw1
              have hA9 := DpAll.keep kp9 (tf_its _) hA8
              have hc9 : (upd H8 w (.lst (us ++ [.ref u1]))) l = some (.lst ((c.set (off + lf.size) p).map V.int)) := by rw [upd_ne nwl.symm]; exact hc8
              have hw9 : (upd H8 w (.lst (us ++ [.ref u1]))) w = some (.lst (us ++ [.ref u1])) := upd_same
              generalize upd H8 w (.lst (us ++ [.ref u1])) = H9 at kp9 sm9 hA9 hc9 hw9 ⊢
              -- the right subtree
              refine ⟨.ref w, rfl, .inl ⟨rfl, _, .inl (.inl hw9)⟩, _, rfl, _, _, rfl, rfl, _, rfl, _, rfl, _, _, rfl, rfl, _, rfl, sz60 (by simp), fun u2 nu2 => ?_⟩
              have s10 := same_upd (o := .tup [V.int (((off + lf.size : Nat) : Int) + 1), V.int ((off + (T.node lf rt).size : Nat) : Int), V.int ((k : Int) + 1), V.int ((off + lf.size : Nat) : Int)]) nu2
              have hw10 := s10 _ _ hw9
              refine ⟨w, _, _, rfl, rfl, hw10, sz61 (by simp; omega), ?_⟩
              have hu10 : Dp K (upd H9 u2 (.tup [V.int (((off + lf.size : Nat) : Int) + 1), V.int ((off + (T.node lf rt).size : Nat) : Int), V.int ((k : Int) + 1), V.int ((off + lf.size : Nat) : Int)])) (.ref u2) (dIt (off + lf.size + 1, rt, k + 1, ((off + lf.size : Nat) : Int))) := by
                refine .tup (.inl (.inl upd_same)) ?_
                have := dp_ints (K := K) (H := upd H9 u2 (.tup [V.int (((off + lf.size : Nat) : Int) + 1), V.int ((off + (T.node lf rt).size : Nat) : Int), V.int ((k : Int) + 1), V.int ((off + lf.size : Nat) : Int)])) [((off + lf.size : Nat) : Int) + 1, ((off + (T.node lf rt).size : Nat) : Int), (k : Int) + 1, ((off + lf.size : Nat) : Int)]
                have e1 : ((off + lf.size : Nat) : Int) + 1 = ((off + lf.size + 1 : Nat) : Int) := by omega
                have e2 : off + (T.node lf rt).size = off + lf.size + 1 + rt.size := by rw [hsz]; omega
                rw [e1, e2] at this ⊢
                exact this
              have hA10 : DpAll K (upd H9 u2 (.tup [V.int (((off + lf.size : Nat) : Int) + 1), V.int ((off + (T.node lf rt).size : Nat) : Int), V.int ((k : Int) + 1), V.int ((off + lf.size : Nat) : Int)])) ((us ++ [.ref u1]) ++ [.ref u2]) (((WL ++ [(off, lf, k, ((off + lf.size : Nat) : Int))]) ++ [(off + lf.size + 1, rt, k + 1, ((off + lf.size : Nat) : Int))]).map dIt) := by
                rw [List.map_append]; exact DpAll.append (DpAll.same s10 hA9) (.cons hu10 .nil)
              have hc10 := s10 _ _ hc9
              have sm10 := sm9.trans s10
              generalize upd H9 u2 (.tup [V.int (((off + lf.size : Nat) : Int) + 1), V.int ((off + (T.node lf rt).size : Nat) : Int), V.int ((k : Int) + 1), V.int ((off + lf.size : Nat) : Int)]) = H10 at s10 hw10 hA10 hc10 sm10 ⊢
              have kp11 : Keep K H10 (upd H10 w (.lst ((us ++ [.ref u1]) ++ [.ref u2]))) := But.keep But.upd hw10
              refine ⟨_, ?_, _, _, _, _, _, _, (WL ++ [(off, lf, k, ((off + lf.size : Nat) : Int))]) ++ [(off + lf.size + 1, rt, k + 1, ((off + lf.size : Nat) : Int))], (us ++ [.ref u1]) ++ [.ref u2], c.set (off + lf.size) p, rfl, rfl, Same.mut sm10 nw1, ?_, by rw [List.length_set]; exact hcl, upd_same, DpAll.keep kp11 (tf_its _) hA10, fun x hx => ?_, fun j hj h => ?_, ?_⟩
              · simp only [todo_app, todo, hsz]; omega
              · rw [upd_ne nwl.symm]; exact hc10
              · rcases List.mem_append.mp hx with hx | hx
                · rcases List.mem_append.mp hx with hx | hx
                  · exact hSub x (List.mem_append_left _ hx)
                  · have e : x = (off, lf, k, ((off + lf.size : Nat) : Int)) := by simpa using hx
                    rw [e]; exact .left hsub
                · have e : x = (off + lf.size + 1, rt, k + 1, ((off + lf.size : Nat) : Int)) := by simpa using hx
                  rw [e]; exact .right hsub
              · by_cases ej : off + lf.size = j
                · rw [← ej, List.getElem?_set_self (by omega), sub_root hsub]
                · rw [List.getElem?_set_ne ej]
                  refine hDone j hj fun x hx => ?_
                  rcases List.mem_append.mp hx with hx | hx
                  · exact h x (List.mem_append_left _ (List.mem_append_left _ hx))
                  · have e : x = (off, T.node lf rt, k, p) := by simpa using hx
                    rw [e]
                    show ¬ (off ≤ j ∧ j < off + (T.node lf rt).size)
                    have a1 : ¬ (off ≤ j ∧ j < off + lf.size) := h (off, lf, k, ((off + lf.size : Nat) : Int)) (by simp)
                    have a2 : ¬ (off + lf.size + 1 ≤ j ∧ j < off + lf.size + 1 + rt.size) := h (off + lf.size + 1, rt, k + 1, ((off + lf.size : Nat) : Int)) (by simp)
                    omega
              · simp only [todo_app, todo, hsz] at hlen ⊢; omega
end
def dI3 (x : Nat × T × Nat × Int) : PyData := .tuple [.int (x.1 : Int), .int ((x.1 + x.2.1.size : Nat) : Int), .int x.2.2.2]
theorem tf_i3 (L : List (Nat × T × Nat × Int)) : ∀ d, d ∈ L.map dI3 → Tf d := fun d h => by
  obtain ⟨x, _, rfl⟩ := List.mem_map.mp h
  exact .tup (tf_ints [(x.1 : Int), ((x.1 + x.2.1.size : Nat) : Int), x.2.2.2])
def NumInv (K : PySem.W.Frag) (t : T) (H1 : Hp) (a w : Addr) (m : Nat) (σ : L2.St) (H' : Hp) : Prop :=
  ∃ (y2 y3 y4 y5 y6 y7 : Option V) (WL : List (Nat × T × Nat × Int)) (acc : List V), σ = [some (.ref a), some (.ref w), y2, y3, y4, y5, y6, y7] ∧ m = todo WL ∧ Same H1 H' ∧ H' w = some (.lst acc) ∧ DpAll K H' acc (WL.map dI3) ∧
    (∀ x, x ∈ WL → Sub t x.1 x.2.1 x.2.2.1 x.2.2.2) ∧ todo WL ≤ 2 * t.size + 1
theorem parOf_len (t : T) : t.parOf.length = t.size := T.par_len t 0 (-1)
section
variable {P : Program} {w : World} {K : PySem.W.Frag} {mg : Str → Option Value} {base : Heap}
def sp_is_numbered_in_order (K : PySem.W.Frag) : Sp := fun vs H Q _ => ∃ (a : Addr) (t : T), vs = [.ref a] ∧ SqT K H a (t.parOf.map V.int) ∧ t.size ≤ 60 ∧ ∀ H', Same H H' → Q (.bl true) H'
theorem ok_is_numbered_in_order (TX : Tx K mg) : FnOk P w K mg base CX0 1 TX.a_is_numbered_in_order TX.fd_is_numbered_in_order ["parents"] (sp_is_numbered_in_order K) := by
  refine TX.f_is_numbered_in_order.ok sc_is_numbered_in_order (fun vs H Q E h => ?_) (fun cdv A outer s H vs Q E hr h => ?_)
  · obtain ⟨a, t, rfl, _⟩ := h; rfl
  · obtain ⟨a, t, rfl, hS, hz, q⟩ := h
    refine ⟨_, (pss_cons (ps_set (i := 1) sc_is_numbered_in_order.nd rfl (.inl rfl) (pe_lst (pa_cons (pe_tup (pa_cons pe_int (pa_cons (pe_callB (id := "len") (k_len (K := K) rfl) (by rfl) TX.b_len (by decide +kernel) (pa_cons (pv 0) pa_nil)) (pa_cons (pe_glob (v := .int (-1)) (by rfl) TX.c_NO_PARENT ⟨_, rfl⟩) pa_nil)))) pa_nil)))
      (pss_cons (ps_while PassesOwn.never (pt_truth (pv 1) (by intro _; rfl))
        (pss_cons (ps_asg (pe_bm0 PySem.F.plainAttrs_list PySem.F.slot_list_pop PySem.F.type_list_pop mt_pop (pv 1)) (pg_tup rfl (pgs_cons (pg_name (i := 2) sc_is_numbered_in_order.nd rfl (.inl rfl)) (pgs_cons (pg_name (i := 3) sc_is_numbered_in_order.nd rfl (.inl rfl)) (pgs_cons (pg_name (i := 4) sc_is_numbered_in_order.nd rfl (.inr rfl)) pgs_nil)))))
        (pss_cons (ps_if (pt_cmpR op_eq (pv 2) (pv 3) (nomark _))
          (pss_one ps_continue)
          pss_nil)
        (pss_cons (ps_setLc (i := 5) (own := [("node", 7)]) (by rfl) sc_is_numbered_in_order.nd rfl rfl (sw_true rfl rfl rfl (by decide +kernel)) (pi_range2 (by rfl) TX.b_range (pa_cons (pv 2) (pa_cons (pv 3) pa_nil))) (blkOk_by (own := [("node", 7)]) (N := N_is_numbered_in_order) (sc := defScope s_is_numbered_in_order) (by decide +kernel)) (fun _ _ _ _ _ => (pg_name (i := 7) sc_is_numbered_in_order.nd rfl (Or.inl rfl))) (fun _ _ _ _ _ => (pts_one (pt_cmpR op_eq (pe_ix (k_ixT (K := K) rfl) (pv 0) (pv 7) (fun _ _ => rfl)) (pv 4) (nomark _)))) (fun _ _ _ _ _ => (pv 7)))
        (pss_cons (ps_if (pt_cmpR op_ne (pe_callB (id := "len") (k_len (K := K) rfl) (by rfl) TX.b_len (by decide +kernel) (pa_cons (pv 5) pa_nil)) pe_int (nomark _))
          (pss_one (ps_ret pe_bl))
          pss_nil)
        (pss_cons (ps_set (i := 6) sc_is_numbered_in_order.nd rfl (.inl rfl) (pe_ix (k_ixL (K := K) rfl) (pv 5) pe_int (fun _ _ => rfl)))
        (pss_cons (ps_expr (pe_bm PySem.F.plainAttrs_list PySem.F.slot_list_append PySem.F.type_list_append mt_append (pv 1) (pa_cons (pe_tup (pa_cons (pv 2) (pa_cons (pv 6) (pa_cons (pv 6) pa_nil)))) pa_nil)))
        (pss_one (ps_expr (pe_bm PySem.F.plainAttrs_list PySem.F.slot_list_append PySem.F.type_list_append mt_append (pv 1) (pa_cons (pe_tup (pa_cons (pe_op op_add (pv 6) pe_int) (pa_cons (pv 3) (pa_cons (pv 6) pa_nil)))) pa_nil)))))))))))
      (pss_one (ps_ret pe_bl)))), ?_⟩
    have hl : (t.parOf.map V.int).length = t.size := by rw [List.length_map, parOf_len]
    refine ⟨.ref a, rfl, a, _, rfl, .inr hS, sz60 (by simp), fun u nu => ⟨sz60 (by simp), fun w nw => ?_⟩⟩
    have s4 := same_upd (o := .tup [.int 0, .int ((t.parOf.map V.int).length : Int), .int (-1)]) nu
    have s5 := same_upd (o := .lst [.ref u]) nw
    have nw1 : H w = none := s4.free nw
    refine ⟨NumInv K t H a w, ⟨_, none, none, none, none, none, none, [(0, t, 1, -1)], [.ref u], rfl, rfl, s4.trans s5, upd_same, ?_, ?_, ?_⟩, ?_⟩
    · refine .cons (.tup (Same.tup s5 (.inl (.inl upd_same))) ?_) .nil
      rw [hl]
      have := dp_ints (K := K) (H := upd (upd H u (.tup [.int 0, .int (t.size : Int), .int (-1)])) w (.lst [.ref u])) [0, (t.size : Int), -1]
      simpa using this
    · intro x hx
      have e : x = (0, t, 1, -1) := by simpa using hx
      rw [e]; exact .root
    · simp [todo]
    · rintro m σ H4 ⟨y2, y3, y4, y5, y6, y7, WL, acc, rfl, rfl, sm, hw, hA, hSub, hlen⟩
      refine ⟨.ref w, rfl, _, .inl ⟨acc, .inl (.inl hw), rfl⟩, ?_⟩
      rcases snoc_cases WL with rfl | ⟨WL, x, rfl⟩
      · cases hA
        exact iteF (q _ sm)
      · rw [List.map_append] at hA
        obtain ⟨us, v, rfl, hA1, hv⟩ := DpAll.snoc hA
        have hus := DpAll.len hA1
        rw [List.length_map] at hus
        obtain ⟨off, sb, k, p⟩ := x
        have hsub : Sub t off sb k p := hSub (off, sb, k, p) (by simp)
        have hsl := sub_le hsub
        obtain ⟨b, e, hb⟩ := Dp.intsInv (ns := [(off : Int), ((off + sb.size : Nat) : Int), p]) hv
        cases e
        have ne : (!(us ++ [V.ref b]).isEmpty) = true := by simp
        rw [ne]
        refine iteT ⟨fun σ' H' => ∃ m', m' < todo (WL ++ [(off, sb, k, p)]) ∧ NumInv K t H a w m' σ' H', fun σ' H' h => h, ?_⟩
        have kp : Keep K H4 (upd H4 w (.lst us)) := But.keep But.upd hw
        have hdl : (us ++ [V.ref b]).dropLast = us := by simp
        refine ⟨.ref w, rfl, .inl ⟨rfl, _, .inl (.inl hw)⟩, w, _, .ref b, rfl, rfl, hw, by simp, ?_⟩
        rw [hdl]
        have sm5 : Same H (upd H4 w (.lst us)) := Same.mut sm nw1
        have hA5 := DpAll.keep kp (tf_i3 WL) hA1
        have hb5 := kp _ _ hb
        generalize hH5 : upd H4 w (.lst us) = H5 at kp sm5 hA5 hb5 ⊢
        have hw5 : H5 w = some (.lst us) := by rw [← hH5]; exact upd_same
        refine ⟨b, _, rfl, hb5, rfl, _, _, rfl, _, _, rfl, _, [], rfl, rfl, ?_⟩
        refine ⟨_, rfl, _, rfl, rfl, _, rfl, ite2 (fun e => ?_) (fun e => ?_)⟩
        · have e0 : (off : Int) = ((off + sb.size : Nat) : Int) := V.int.inj (of_decide_eq_true e)
          refine ⟨todo WL, by rw [todo_app]; simp [todo], _, _, _, _, _, _, WL, us, rfl, rfl, sm5, hw5, hA5, fun x hx => hSub x (List.mem_append_left _ hx), ?_⟩
          rw [todo_app] at hlen; omega
        · have es : sb.size ≠ 0 := fun z => e (decide_eq_true (by rw [z]; rfl))
          cases sb with
          | nil => exact absurd rfl es
          | node lf rt =>
            have hsz : (T.node lf rt).size = lf.size + 1 + rt.size := rfl
            have nn : (((off + (T.node lf rt).size : Nat) : Int) - (off : Int)).toNat = (T.node lf rt).size := by omega
            refine ⟨_, rfl, _, rfl, _, _, rfl, ⟨by omega, by omega, by omega, by omega⟩, fun D nD => ?_⟩
            rw [nn]
            refine lc_fil (lo := (off : Int)) (j := 7) (fun i => decide (V.int (t.parOf.getD (off + i) 0) = V.int p)) (by omega) nD (fun x => rfl) (fun x => rfl) (fun i H6 Q6 hi s6 q6 => ?_) (fun H6 s6 hD6 => ?_)
            · have ea : (t.parOf.map V.int)[off + i]? = some (V.int (t.parOf.getD (off + i) 0)) := by
                rw [List.getElem?_map, List.getD_eq_getElem?_getD, List.getElem?_eq_getElem (by rw [parOf_len]; omega)]; rfl
              have ei : (off : Int) + (i : Nat) = ((off + i : Nat) : Int) := by omega
              rw [ei]
              exact ⟨.ref a, rfl, _, rfl, a, _, _, _, rfl, rfl, Same.tup (sm5.trans s6) hS, atI_nat ea, _, rfl, rfl, _, rfl, q6⟩
            · have hout := sub_out hsub
              have ef : (List.range (T.node lf rt).size).filter (fun i => decide (V.int (t.parOf.getD (off + i) 0) = V.int p)) = [lf.size] := by
                refine filter_one (by omega) ?_ fun i hi hf => ?_
                · rw [List.getD_eq_getElem?_getD, sub_root hsub]; exact decide_eq_true rfl
                · obtain ⟨qq, hq1, hq2⟩ := sub_par_at hsub hi
                  rw [List.getD_eq_getElem?_getD, hq2] at hf
                  have hf2 : qq = p := V.int.inj (of_decide_eq_true hf)
                  rcases par_in _ _ _ _ _ hq1 with ⟨l', r', e1, e2, _⟩ | ⟨h1, h2, _⟩
                  · cases e1; exact e2
                  · exfalso; rw [hf2] at h1 h2; omega
              rw [ef] at hD6
              have hD6' : H6 D = some (.lst [V.int ((off : Int) + (lf.size : Nat))]) := hD6
              refine ⟨.ref D, rfl, D, _, rfl, .inl (.inl (.inl hD6')), rfl, _, rfl, iteF ?_⟩
              refine ⟨.ref D, rfl, D, _, 0, _, rfl, rfl, .inl (.inl hD6'), rfl, ?_⟩
              have er : (off : Int) + (lf.size : Nat) = ((off + lf.size : Nat) : Int) := by omega
              rw [er]
              have hw7 := s6 _ _ hw5
              have hA7 := DpAll.same s6 hA5
              have sm7 := sm5.trans s6
              have hlw : WL.length ≤ 300 := by
                have := len_todo WL
                rw [todo_app] at hlen; omega
              -- the left subtree
              refine ⟨.ref w, rfl, .inl ⟨rfl, _, .inl (.inl hw7)⟩, _, rfl, _, rfl, _, rfl, sz60 (by simp), fun u1 nu1 => ?_⟩
              have s8 := same_upd (o := .tup [V.int (off : Int), V.int ((off + lf.size : Nat) : Int), V.int ((off + lf.size : Nat) : Int)]) nu1
              have hw8 := s8 _ _ hw7
              refine ⟨w, _, _, rfl, rfl, hw8, sz61 (by omega), ?_⟩
              have hu8 : Dp K (upd H6 u1 (.tup [V.int (off : Int), V.int ((off + lf.size : Nat) : Int), V.int ((off + lf.size : Nat) : Int)])) (.ref u1) (dI3 (off, lf, k, ((off + lf.size : Nat) : Int))) :=
                .tup (.inl (.inl upd_same)) (dp_ints [(off : Int), ((off + lf.size : Nat) : Int), ((off + lf.size : Nat) : Int)])
              have hA8 : DpAll K (upd H6 u1 (.tup [V.int (off : Int), V.int ((off + lf.size : Nat) : Int), V.int ((off + lf.size : Nat) : Int)])) (us ++ [.ref u1]) ((WL ++ [(off, lf, k, ((off + lf.size : Nat) : Int))]).map dI3) := by
                rw [List.map_append]; exact DpAll.append (DpAll.same s8 hA7) (.cons hu8 .nil)
              have sm8 := sm7.trans s8
              generalize upd H6 u1 (.tup [V.int (off : Int), V.int ((off + lf.size : Nat) : Int), V.int ((off + lf.size : Nat) : Int)]) = H8 at s8 hw8 hA8 sm8 ⊢
              have kp9 : Keep K H8 (upd H8 w (.lst (us ++ [.ref u1]))) := But.keep But.upd hw8
              have sm9 : Same H (upd H8 w (.lst (us ++ [.ref u1]))) := Same.mut sm8 nw1
              have hA9 := DpAll.keep kp9 (tf_i3 _) hA8
              have hw9 : (upd H8 w (.lst (us ++ [.ref u1]))) w = some (.lst (us ++ [.ref u1])) := upd_same
              generalize upd H8 w (.lst (us ++ [.ref u1])) = H9 at kp9 sm9 hA9 hw9 ⊢
              -- the right subtree
              refine ⟨.ref w, rfl, .inl ⟨rfl, _, .inl (.inl hw9)⟩, _, rfl, _, _, rfl, rfl, _, rfl, _, rfl, sz60 (by simp), fun u2 nu2 => ?_⟩
              have s10 := same_upd (o := .tup [V.int (((off + lf.size : Nat) : Int) + 1), V.int ((off + (T.node lf rt).size : Nat) : Int), V.int ((off + lf.size : Nat) : Int)]) nu2
              have hw10 := s10 _ _ hw9
              refine ⟨w, _, _, rfl, rfl, hw10, sz61 (by simp; omega), ?_⟩
              have hu10 : Dp K (upd H9 u2 (.tup [V.int (((off + lf.size : Nat) : Int) + 1), V.int ((off + (T.node lf rt).size : Nat) : Int), V.int ((off + lf.size : Nat) : Int)])) (.ref u2) (dI3 (off + lf.size + 1, rt, k + 1, ((off + lf.size : Nat) : Int))) := by
                refine .tup (.inl (.inl upd_same)) ?_
                have := dp_ints (K := K) (H := upd H9 u2 (.tup [V.int (((off + lf.size : Nat) : Int) + 1), V.int ((off + (T.node lf rt).size : Nat) : Int), V.int ((off + lf.size : Nat) : Int)])) [((off + lf.size : Nat) : Int) + 1, ((off + (T.node lf rt).size : Nat) : Int), ((off + lf.size : Nat) : Int)]
                have e1 : ((off + lf.size : Nat) : Int) + 1 = ((off + lf.size + 1 : Nat) : Int) := by omega
                have e2 : off + (T.node lf rt).size = off + lf.size + 1 + rt.size := by rw [hsz]; omega
                rw [e1, e2] at this ⊢
                exact this
              have hA10 : DpAll K (upd H9 u2 (.tup [V.int (((off + lf.size : Nat) : Int) + 1), V.int ((off + (T.node lf rt).size : Nat) : Int), V.int ((off + lf.size : Nat) : Int)])) ((us ++ [.ref u1]) ++ [.ref u2]) (((WL ++ [(off, lf, k, ((off + lf.size : Nat) : Int))]) ++ [(off + lf.size + 1, rt, k + 1, ((off + lf.size : Nat) : Int))]).map dI3) := by
                rw [List.map_append]; exact DpAll.append (DpAll.same s10 hA9) (.cons hu10 .nil)
              have sm10 := sm9.trans s10
              generalize upd H9 u2 (.tup [V.int (((off + lf.size : Nat) : Int) + 1), V.int ((off + (T.node lf rt).size : Nat) : Int), V.int ((off + lf.size : Nat) : Int)]) = H10 at s10 hw10 hA10 sm10 ⊢
              have kp11 : Keep K H10 (upd H10 w (.lst ((us ++ [.ref u1]) ++ [.ref u2]))) := But.keep But.upd hw10
              refine ⟨_, ?_, _, _, _, _, _, _, (WL ++ [(off, lf, k, ((off + lf.size : Nat) : Int))]) ++ [(off + lf.size + 1, rt, k + 1, ((off + lf.size : Nat) : Int))], (us ++ [.ref u1]) ++ [.ref u2], rfl, rfl, Same.mut sm10 nw1, upd_same, DpAll.keep kp11 (tf_i3 _) hA10, fun x hx => ?_, ?_⟩
              · simp only [todo_app, todo, hsz]; omega
              · rcases List.mem_append.mp hx with hx | hx
                · rcases List.mem_append.mp hx with hx | hx
                  · exact hSub x (List.mem_append_left _ hx)
                  · have e : x = (off, lf, k, ((off + lf.size : Nat) : Int)) := by simpa using hx
                    rw [e]; exact .left hsub
                · have e : x = (off + lf.size + 1, rt, k + 1, ((off + lf.size : Nat) : Int)) := by simpa using hx
                  rw [e]; exact .right hsub
              · simp only [todo_app, todo, hsz] at hlen ⊢; omega
def sp_is_tree (K : PySem.W.Frag) : Sp := fun vs H Q _ => ∃ (a : Addr) (t : T), vs = [.ref a] ∧ SqT K H a (t.parOf.map V.int) ∧ t.size ≤ 60 ∧ ∀ H', Same H H' → Q (.bl true) H'
theorem dp_bools_inv {K : PySem.W.Frag} {H : Hp} : ∀ {ns : List Bool} {vs : List V}, DpAll K H vs (ns.map PyData.bool) → vs = ns.map V.bl
  | [], _, .nil => rfl
  | n :: ns, _, .cons a b => by
    cases a
    rw [dp_bools_inv b]
    rfl
theorem ok_is_tree (TX : Tx K mg) : FnOk P w K mg base CX0 2 TX.a_is_tree TX.fd_is_tree ["value"] (sp_is_tree K) := by
  refine TX.f_is_tree.ok sc_is_tree (fun vs H Q E h => ?_) (fun cdv A outer s H vs Q E hr h => ?_)
  · obtain ⟨a, t, rfl, _⟩ := h; rfl
  · obtain ⟨a, t, rfl, hS, hz, q⟩ := h
    refine ⟨_, (pss_cons (ps_if (PW.pt (pw_or (pt_not (pt_val (pe_callB (id := "isinstance") (k_isi (K := K) rfl) (by rfl) TX.b_isinstance (by decide +kernel) (pa_cons (pv 0) (pa_cons (pe_bltn (v := .ty "tuple") (by rfl) TX.b_tuple (by decide +kernel) rfl) pa_nil))))) (pw_or1 (pt_cmpR op_gt (pe_callB (id := "len") (k_len (K := K) rfl) (by rfl) TX.b_len (by decide +kernel) (pa_cons (pv 0) pa_nil)) (pe_glob (v := .int (60)) (by rfl) TX.c_MOST_FLUSHES ⟨_, rfl⟩) (nomark _)))))
        (pss_one (ps_ret pe_bl))
        pss_nil)
      (pss_cons (ps_if (pt_not (pt_val (pe_callB (id := "all") (cr_all rfl) (by rfl) TX.b_all (by decide +kernel) (pa_cons (pe_lc (own := [("parent", 1)]) (by rfl) sc_is_tree.nd (k_piT (K := K) rfl (pv 0)) (blkOk_by (own := [("parent", 1)]) (N := N_is_tree) (sc := defScope s_is_tree) (by decide +kernel)) (fun _ _ _ _ _ => (pg_name (i := 1) sc_is_tree.nd rfl (Or.inl rfl))) (fun _ _ _ _ _ => pts_nil) (fun _ _ _ _ _ => (pe_call (ok_is_int TX) (hr.mono (by decide)) (by rfl) TX.g_is_int TX.f_is_int.kp TX.bd_is_int .nil pass0 (pa_cons (pv 1) pa_nil)))) pa_nil))))
        (pss_one (ps_ret pe_bl))
        pss_nil)
      (pss_one (ps_ret (pe_call (ok_is_numbered_in_order TX) (hr.mono (by decide)) (by rfl) TX.g_is_numbered_in_order TX.f_is_numbered_in_order.kp TX.bd_is_numbered_in_order .nil pass0 (pa_cons (pv 0) pa_nil)))))), ?_⟩
    have hl : (t.parOf.map V.int).length = t.size := by rw [List.length_map, parOf_len]
    refine ⟨.ref a, rfl, .ref a, .ty "tuple", .type "tuple", .type "tuple", true, rfl, .ty _, ty_tup hS, kit_ty (by decide +kernel), true, rfl, iteF ⟨.ref a, rfl, a, _, rfl, .inr hS, _, _, rfl, rfl, _, rfl, decF (by rw [hl]; omega) ?_⟩⟩
    refine ⟨.ref a, rfl, a, rfl, ⟨_, hS⟩, fun D nD => lc_all (K := K) walk_tup ((List.replicate t.size true).map PyData.bool) (by rw [List.length_map, List.length_replicate, hl]) (fun d h => ?_) (by omega) nD (fun H' s' => Same.tup s' hS) ?_ ?_ (fun x σ' H' Q Q' h => h _ _) (fun σ' H' Q Q' h => h _ _)⟩
    · obtain ⟨b, _, rfl⟩ := List.mem_map.mp h
      exact .bl b
    · rintro i x H2 H2' hi s2 ⟨rfl, hx⟩ d hd R hR
      rw [List.getElem?_map] at hx
      cases hp : t.parOf[i]? with
      | none => rw [hp] at hx; cases hx
      | some v =>
        rw [hp] at hx
        cases hx
        refine ⟨rfl, rfl, .int v, rfl, v, rfl, hR _ _ (Same.refl _) ?_⟩
        rw [List.getElem?_map, List.getElem?_replicate, if_pos (by omega)] at hd
        cases hd
        exact .bl true
    · intro H2 acc s2 ha hAcc
      rw [dp_bools_inv hAcc] at ha
      refine ⟨D, List.replicate t.size true, rfl, .inl (.inl ha), _, rfl, ?_⟩
      have e : (List.replicate t.size true).all id = true := by simp
      rw [e]
      exact iteF ⟨.ref a, rfl, a, t, rfl, Same.tup s2 hS, hz, fun H' s' => q H' (s2.trans s')⟩
end
theorem wr_at {t : T} {i : Nat} (h : i < t.size) : t.wr[i]? = some (t.wr.getD i 0) := by
  rw [List.getD_eq_getElem?_getD, List.getElem?_eq_getElem (by rw [T.wr_len]; exact h)]; rfl
theorem rc_atD {t : T} {i : Nat} (h : i < t.size) : t.rc[i]? = some (t.rc.getD i 0) := by
  rw [List.getD_eq_getElem?_getD, List.getElem?_eq_getElem (by rw [T.rc_len]; exact h)]; rfl
theorem par_at {t : T} {i : Nat} (h : i < t.size) : t.parOf[i]? = some (t.parOf.getD i 0) := by
  rw [List.getD_eq_getElem?_getD, List.getElem?_eq_getElem (by rw [parOf_len]; exact h)]; rfl
theorem at_par {t : T} {i : Nat} (h : i < t.size) : atI (t.parOf.map V.int) (i : Int) = some (.int (t.parOf.getD i 0)) := by
  refine atI_nat ?_
  rw [List.getElem?_map, par_at h]; rfl
/-- (left edges, right edges) -/
def dEd (t : T) (i : Nat) : PyData := .tuple [.int ((t.wr.getD i 0 : Int) - 1), .int ((t.rc.getD i 0 : Int) - 1)]
def dEdges (t : T) : List PyData := (List.range t.size).map (dEd t)
theorem tf_edges (t : T) : ∀ d, d ∈ dEdges t → Tf d := fun d h => by
  obtain ⟨i, _, rfl⟩ := List.mem_map.mp h
  exact .tup (tf_ints [((t.wr.getD i 0 : Int) - 1), ((t.rc.getD i 0 : Int) - 1)])
def EdInv (t : T) (H : Hp) (a : Addr) (i : Nat) (m : Nat) (σ : L2.St) (H' : Hp) : Prop := ∃ (lf rt : Int) (c : Nat), σ = [some (.ref a), some (.int (i : Int)), some (.int lf), some (.int rt), some (.int (c : Int))] ∧ H' = H ∧ c < t.size ∧ m = t.wr.getD c 0 + t.rc.getD c 0 ∧
  lf + (t.wr.getD c 0 : Int) = (t.wr.getD i 0 : Int) ∧ rt + (t.rc.getD c 0 : Int) = (t.rc.getD i 0 : Int)
section
variable {P : Program} {w : World} {K : PySem.W.Frag} {mg : Str → Option Value} {base : Heap}
def sp_edges_above (K : PySem.W.Frag) : Sp := fun vs H Q _ => ∃ (a : Addr) (t : T) (i : Nat), vs = [.ref a, .int (i : Int)] ∧ SqT K H a (t.parOf.map V.int) ∧ i < t.size ∧ ∀ H' p, Same H H' → Dp K H' (.ref p) (dEd t i) → Q (.ref p) H'
theorem ok_edges_above (TX : Tx K mg) : FnOk P w K mg base CX0 1 TX.a_edges_above TX.fd_edges_above ["tree", "node"] (sp_edges_above K) := by
  refine TX.f_edges_above.ok sc_edges_above (fun vs H Q E h => ?_) (fun cdv A outer s H vs Q E hr h => ?_)
  · obtain ⟨a, t, i, rfl, _⟩ := h; rfl
  · obtain ⟨a, t, i, rfl, hS, hi, q⟩ := h
    refine ⟨_, (pss_cons (ps_set (i := 2) sc_edges_above.nd rfl (.inl rfl) pe_int)
      (pss_cons (ps_set (i := 3) sc_edges_above.nd rfl (.inl rfl) pe_int)
      (pss_cons (ps_set (i := 4) sc_edges_above.nd rfl (.inl rfl) (pv 1))
      (pss_cons (ps_while PassesOwn.never (pt_cmpR op_ne (pe_ix (k_ixT (K := K) rfl) (pv 0) (pv 4) (fun _ _ => rfl)) (pe_glob (v := .int (-1)) (by rfl) TX.c_NO_PARENT ⟨_, rfl⟩) (nomark _))
        (pss_cons (ps_if (pt_cmpR op_lt (pv 4) (pe_ix (k_ixT (K := K) rfl) (pv 0) (pv 4) (fun _ _ => rfl)) (nomark _))
          (pss_one (ps_aug (i := 2) sc_edges_above.nd rfl (.inl rfl) pe_int ip_add))
          (pss_one (ps_aug (i := 3) sc_edges_above.nd rfl (.inl rfl) pe_int ip_add)))
        (pss_one (ps_set (i := 4) sc_edges_above.nd rfl (.inl rfl) (pe_ix (k_ixT (K := K) rfl) (pv 0) (pv 4) (fun _ _ => rfl))))))
      (pss_one (ps_ret (pe_tup (pa_cons (pv 2) (pa_cons (pv 3) pa_nil))))))))), ?_⟩
    refine ⟨.int (i : Int), rfl, EdInv t H a i, ⟨_, 0, 0, i, rfl, rfl, hi, rfl, by omega, by omega⟩, ?_⟩
    rintro m σ H' ⟨lf, rt, c, rfl, rfl, hc, rfl, e1, e2⟩
    refine ⟨.ref a, rfl, _, rfl, a, _, _, _, rfl, rfl, hS, at_par hc, rfl, _, rfl, ?_⟩
    have hp := par_at hc
    rcases up t 0 (-1) c _ hp with ⟨f1, f2, f3⟩ | ⟨j, f1, f2, f3, f4, f5⟩
    · rw [f1]
      refine iteF ?_
      refine ⟨_, rfl, _, rfl, sz60 (by simp), fun p np => q _ p (same_upd np) (.tup (.inl (.inl upd_same)) ?_)⟩
      rw [f2] at e1
      rw [f3] at e2
      have := dp_ints (K := K) (H := upd H' p (HO.tup [V.int lf, V.int rt])) [lf, rt]
      have g1 : (t.wr.getD i 0 : Int) - 1 = lf := by omega
      have g2 : (t.rc.getD i 0 : Int) - 1 = rt := by omega
      rw [g1, g2]
      exact this
    · have ej : t.parOf.getD c 0 = (j : Int) := by rw [f1]; omega
      rw [ej]
      have nj : (!decide (V.int (j : Int) = V.int (-1))) = true := by
        have : ¬ V.int (j : Int) = V.int (-1) := fun z => by have := V.int.inj z; omega
        rw [decide_eq_false this]; rfl
      have hc1 := wr_pos hc
      have hc2 := rc_posD hc
      refine iteB1 nj ⟨fun σ' H'' => ∃ m', m' < t.wr.getD c 0 + t.rc.getD c 0 ∧ EdInv t H' a i m' σ' H'', fun _ _ h => h, ?_⟩
      refine ⟨_, rfl, .ref a, rfl, _, rfl, a, _, _, _, rfl, rfl, hS, at_par hc, _, _, rfl, rfl, _, rfl, ?_⟩
      rw [ej]
      refine ite2 (fun h => ?_) (fun h => ?_)
      · have hcj : c < j := by have := of_decide_eq_true h; omega
        obtain ⟨g1, g2⟩ := f4 hcj
        refine ⟨_, rfl, _, _, rfl, rfl, .ref a, rfl, _, rfl, a, _, _, _, rfl, rfl, hS, at_par hc, ?_⟩
        rw [ej]
        exact ⟨_, by omega, lf + 1, rt, j, rfl, rfl, f2, rfl, by omega, by omega⟩
      · have hcj : j < c := by
          have : ¬ ((c : Int) < (j : Int)) := fun z => h (decide_eq_true z)
          omega
        obtain ⟨g1, g2⟩ := f5 hcj
        refine ⟨_, rfl, _, _, rfl, rfl, .ref a, rfl, _, rfl, a, _, _, _, rfl, rfl, hS, at_par hc, ?_⟩
        rw [ej]
        exact ⟨_, by omega, lf, rt + 1, j, rfl, rfl, f2, rfl, by omega, by omega⟩
def sp_edges (K : PySem.W.Frag) : Sp := fun vs H Q _ => ∃ (a : Addr) (t : T), vs = [.ref a] ∧ SqT K H a (t.parOf.map V.int) ∧ t.size ≤ 60 ∧ ∀ H' p, Same H H' → Dp K H' (.ref p) (.tuple (dEdges t)) → Q (.ref p) H'
theorem ok_edges (TX : Tx K mg) : FnOk P w K mg base CX0 3 TX.a_edges TX.fd_edges ["tree"] (sp_edges K) := by
  refine TX.f_edges.ok sc_edges (fun vs H Q E h => ?_) (fun cdv A outer s H vs Q E hr h => ?_)
  · obtain ⟨a, t, rfl, _⟩ := h; rfl
  · obtain ⟨a, t, rfl, hS, hz, q⟩ := h
    refine ⟨_, (pss_cons (ps_if (pt_not (pt_val (pe_call (ok_is_tree TX) (hr.mono (by decide)) (by rfl) TX.g_is_tree TX.f_is_tree.kp TX.bd_is_tree .nil pass0 (pa_cons (pv 0) pa_nil))))
        (pss_one ps_never)
        pss_nil)
      (pss_one (ps_ret (pe_callTy (T := "tuple") (k_tupOf (K := K) rfl) (by rfl) TX.b_tuple (by decide +kernel) (pa_cons (pe_lc (own := [("node", 1)]) (by rfl) sc_edges.nd (pi_range1 (by rfl) TX.b_range (pa_cons (pe_callB (id := "len") (k_len (K := K) rfl) (by rfl) TX.b_len (by decide +kernel) (pa_cons (pv 0) pa_nil)) pa_nil)) (blkOk_by (own := [("node", 1)]) (N := N_edges) (sc := defScope s_edges) (by decide +kernel)) (fun _ _ _ _ _ => (pg_name (i := 1) sc_edges.nd rfl (Or.inl rfl))) (fun _ _ _ _ _ => pts_nil) (fun _ _ _ _ _ => (pe_call (ok_edges_above TX) (hr.mono (by decide)) (by rfl) TX.g_edges_above TX.f_edges_above.kp TX.bd_edges_above .nil pass0 (pa_cons (pv 0) (pa_cons (pv 1) pa_nil))))) pa_nil))))), ?_⟩
    have hl : (t.parOf.map V.int).length = t.size := by rw [List.length_map, parOf_len]
    refine ⟨.ref a, rfl, a, t, rfl, hS, hz, fun H1 s1 => ⟨true, rfl, iteF ?_⟩⟩
    have hS1 := Same.tup s1 hS
    refine ⟨.ref a, rfl, a, _, rfl, .inr hS1, _, rfl, by omega, by omega, fun D nD => ?_⟩
    rw [hl, Int.toNat_natCast]
    refine lc_all (K := K) walk_range (dEdges t) (by simp [dEdges]) (tf_edges t) (by omega) nD (fun _ _ => trivial) ?_ ?_ (fun x σ' H' Q Q' h => h _ _) (fun σ' H' Q Q' h => h _ _)
    · rintro i x H2 H2' hi s2 ⟨rfl, rfl⟩ d hd R hR
      have ei : (0 : Int) + (i : Nat) = (i : Int) := by omega
      show gName 1 (V.int ((0 : Int) + (i : Nat))) _ _ _
      rw [ei]
      have ed : d = dEd t i := by
        rw [dEdges, List.getElem?_map, List.getElem?_range hi] at hd
        exact (Option.some.inj hd).symm
      subst ed
      exact ⟨rfl, rfl, .ref a, rfl, _, rfl, a, t, i, rfl, Same.tup s2 hS1, hi, fun H' p s' h' => hR _ _ s' h'⟩
    · intro H2 acc s2 ha hAcc
      refine ⟨D, acc, rfl, .inl ⟨.inl (.inl ha), fun o no => ?_⟩⟩
      exact q _ o ((s1.trans s2).trans (same_upd no)) (.tup (.inl (.inl upd_same)) (DpAll.same (same_upd no) hAcc))
def sp_schedule_of (K : PySem.W.Frag) : Sp := fun vs H Q _ => ∃ (a : Addr) (t : T), vs = [.ref a] ∧ SqT K H a (t.parOf.map V.int) ∧ t.size ≤ 60 ∧ ∀ H' p, Same H H' → SqT K H' p (vi t.sch) → Q (.ref p) H'
theorem ok_schedule_of (TX : Tx K mg) : FnOk P w K mg base CX0 4 TX.a_schedule_of TX.fd_schedule_of ["tree"] (sp_schedule_of K) := by
  refine TX.f_schedule_of.ok sc_schedule_of (fun vs H Q E h => ?_) (fun cdv A outer s H vs Q E hr h => ?_)
  · obtain ⟨a, t, rfl, _⟩ := h; rfl
  · obtain ⟨a, t, rfl, hS, hz, q⟩ := h
    refine ⟨_, (pss_cons (ps_set (i := 1) sc_schedule_of.nd rfl (.inl rfl) (pe_lst pa_nil))
      (pss_cons (ps_set (i := 2) sc_schedule_of.nd rfl (.inl rfl) pe_int)
      (pss_cons (ps_for PassesOwn.never rfl (k_piT (K := K) rfl (pe_call (ok_edges TX) (hr.mono (by decide)) (by rfl) TX.g_edges TX.f_edges.kp TX.bd_edges .nil pass0 (pa_cons (pv 0) pa_nil))) (pg_tup rfl (pgs_cons (pg_name (i := 3) sc_schedule_of.nd rfl (.inl rfl)) (pgs_cons (pg_name (i := 4) sc_schedule_of.nd rfl (.inl rfl)) pgs_nil)))
        (pss_cons (ps_set (i := 5) sc_schedule_of.nd rfl (.inl rfl) (pe_op op_add (pv 4) pe_int))
        (pss_cons (ps_expr (pe_bm PySem.F.plainAttrs_list PySem.F.slot_list_append PySem.F.type_list_append mt_append (pv 1) (pa_cons (pe_op op_sub (pe_op op_add (pv 2) pe_int) (pv 5)) pa_nil)))
        (pss_one (ps_set (i := 2) sc_schedule_of.nd rfl (.inl rfl) (pv 5))))))
      (pss_one (ps_ret (pe_callTy (T := "tuple") (k_tupOf (K := K) rfl) (by rfl) TX.b_tuple (by decide +kernel) (pa_cons (pv 1) pa_nil))))))), ?_⟩
    refine ⟨sz60 (by simp), fun l nl => ?_⟩
    have s0 : Same H (upd H l (.lst [])) := same_upd nl
    refine ⟨.ref a, rfl, a, t, rfl, Same.tup s0 hS, hz, fun H1 p1 s1 h1 => ?_⟩
    obtain ⟨p1', xs, e, hX, hA⟩ := Dp.tupInv h1
    cases e
    have hl := DpAll.len hA
    have hle : (dEdges t).length = t.size := by simp [dEdges]
    rw [hle] at hl
    refine ⟨p1, rfl, ⟨_, hX⟩, for_tup (K := K) (xs := xs) (fun i σ H' => ∃ y3 y4 y5, σ = [some (.ref a), some (.ref l), some (.int ((pre t i).runs : Int)), y3, y4, y5] ∧ Same H H' ∧ Keep K H1 H' ∧ H' l = some (.lst (vi (t.sch.take i))))
      ⟨none, none, none, rfl, s0.trans s1, Keep.refl, s1 _ _ upd_same⟩ (fun i σ H' _ ⟨_, _, _, _, _, k, _⟩ => k _ _ hX) ?_ ?_⟩
    · rintro i x σ H2 hx ⟨y3, y4, y5, rfl, s2, k2, hl2⟩
      have hi : i < t.size := by rw [← hl]; exact (List.getElem?_eq_some_iff.mp hx).1
      have hd : (dEdges t)[i]? = some (dEd t i) := by rw [dEdges, List.getElem?_map, List.getElem?_range hi]; rfl
      obtain ⟨v, g1, g2⟩ := DpAll.get (DpAll.keep k2 (tf_edges t) hA) hd
      rw [hx] at g1
      cases g1
      obtain ⟨b, e, g3⟩ := Dp.intsInv (ns := [((t.wr.getD i 0 : Int) - 1), ((t.rc.getD i 0 : Int) - 1)]) g2
      cases e
      obtain ⟨m, hm⟩ : ∃ m, t.sch[i]? = some m := ⟨_, List.getElem?_eq_getElem (show i < t.sch.length by rw [T.sch_len]; exact hi)⟩
      obtain ⟨f1, f2⟩ := pre_succ hm
      have f3 := rc_at hm
      rw [rc_atD hi] at f3
      have f4 : t.rc.getD i 0 = (pre t i).runs - m + 1 := Option.some.inj f3
      have f5 := T.push_runs _ _ f2
      refine ⟨b, _, rfl, g3, rfl, _, _, rfl, _, [], rfl, rfl, ?_⟩
      refine ⟨_, rfl, _, _, rfl, rfl, ?_⟩
      refine ⟨.ref l, rfl, .inl ⟨rfl, _, .inl (.inl hl2)⟩, _, rfl, _, _, rfl, rfl, _, rfl, _, _, rfl, rfl, l, _, _, rfl, rfl, hl2, sz61 (by rw [vi_len, List.length_take]; omega), ?_⟩
      refine ⟨_, rfl, ?_⟩
      refine ⟨some (V.int ((t.wr.getD i 0 : Int) - 1)), some (V.int ((t.rc.getD i 0 : Int) - 1)), some (V.int ((t.rc.getD i 0 : Int) - 1 + 1)), ?_, Same.mut s2 nl, k2.trans (But.keep But.upd hl2), ?_⟩
      · rw [f1, f5, ← f4, show (t.rc.getD i 0 : Int) = (t.rc.getD i 0 : Int) - 1 + 1 by omega]
        rw [show (t.rc.getD i 0 : Int) - 1 + 1 - 1 = (t.rc.getD i 0 : Int) - 1 by omega]
        rfl
      · rw [List.take_add_one, hm, vi_app]
        have e : ((pre t i).runs : Int) + 1 - ((t.rc.getD i 0 : Int) - 1 + 1) = (m : Int) := by rw [f4]; omega
        dsimp only
        rw [e]
        exact upd_same
    · rintro σ H2 ⟨y3, y4, y5, rfl, s2, k2, hl2⟩
      rw [hl, List.take_of_length_le (by rw [T.sch_len]; omega)] at hl2
      refine ⟨.ref l, rfl, l, _, rfl, .inl ⟨.inl (.inl hl2), fun o no => ?_⟩⟩
      exact q _ o (s2.trans (same_upd no)) (.inl (.inl upd_same))
def sp_mirrored_node (K : PySem.W.Frag) : Sp := fun vs H Q _ => ∃ n l : Int, vs = [.int n, .int l] ∧ Q (.int (mirN (l + 1) n)) H
theorem ok_mirrored_node (TX : Tx K mg) : FnOk P w K mg base CX0 1 TX.a_mirrored_node TX.fd_mirrored_node ["node", "last"] (sp_mirrored_node K) := by
  refine TX.f_mirrored_node.ok sc_mirrored_node (fun vs H Q E h => ?_) (fun cdv A outer s H vs Q E hr h => ?_)
  · obtain ⟨n, l, rfl, _⟩ := h; rfl
  · obtain ⟨n, l, rfl, q⟩ := h
    refine ⟨_, (pss_one (ps_ret (pe_ifExp (pt_cmpR op_eq (pv 0) (pe_glob (v := .int (-1)) (by rfl) TX.c_NO_PARENT ⟨_, rfl⟩) (nomark _)) (pe_glob (v := .int (-1)) (by rfl) TX.c_NO_PARENT ⟨_, rfl⟩) (pe_op op_sub (pv 1) (pv 0))))), ?_⟩
    refine ⟨_, rfl, rfl, _, rfl, ite2 (fun e => ?_) (fun e => ?_)⟩
    · have e0 : n = -1 := V.int.inj (of_decide_eq_true e)
      unfold mirN at q
      rw [if_pos e0] at q
      exact q
    · have e0 : ¬ n = -1 := fun z => e (decide_eq_true (by rw [z]))
      unfold mirN at q
      rw [if_neg e0, show l + 1 - 1 - n = l - n by omega] at q
      exact ⟨_, rfl, _, rfl, _, _, rfl, rfl, q⟩
def sp_mirror (K : PySem.W.Frag) : Sp := fun vs H Q _ => ∃ (a : Addr) (t : T), vs = [.ref a] ∧ SqT K H a (vi t.sch) ∧ t.size ≤ 60 ∧ ∀ H' p, Same H H' → SqT K H' p (vi t.mir.sch) → Q (.ref p) H'
theorem walk_revT {K : PySem.W.Frag} {a : Addr} {xs : List V} : Walk (RT.ItvT K a xs.length) xs.length (fun H => SqT K H a xs) (fun i H x H' => H' = H ∧ xs[xs.length - 1 - i]? = some x) := by
  refine ⟨fun i H hi hG => ?_, fun H hG => ?_, fun i H x H' hi hG y => ?_⟩
  · exact ⟨hi, xs, xs[xs.length - 1 - i], hG, List.getElem?_eq_getElem (by omega)⟩
  · exact Nat.le_refl _
  · exact ⟨y.1, y.2 xs hG⟩
theorem ok_mirror (TX : Tx K mg) : FnOk P w K mg base CX0 8 TX.a_mirror TX.fd_mirror ["schedule"] (sp_mirror K) := by
  refine TX.f_mirror.ok sc_mirror (fun vs H Q E h => ?_) (fun cdv A outer s H vs Q E hr h => ?_)
  · obtain ⟨a, t, rfl, _⟩ := h; rfl
  · obtain ⟨a, t, rfl, hS, hz, q⟩ := h
    refine ⟨_, (pss_cons (ps_set (i := 1) sc_mirror.nd rfl (.inl rfl) (pe_call (ok_tree_of TX) (hr.mono (by decide)) (by rfl) TX.g_tree_of TX.f_tree_of.kp TX.bd_tree_of .nil pass0 (pa_cons (pv 0) pa_nil)))
      (pss_cons (ps_set (i := 2) sc_mirror.nd rfl (.inr rfl) (pe_op op_sub (pe_callB (id := "len") (k_len (K := K) rfl) (by rfl) TX.b_len (by decide +kernel) (pa_cons (pv 1) pa_nil)) pe_int))
      (pss_one (ps_ret (pe_call (ok_schedule_of TX) (hr.mono (by decide)) (by rfl) TX.g_schedule_of TX.f_schedule_of.kp TX.bd_schedule_of .nil pass0 (pa_cons (pe_callTy (T := "tuple") (k_tupOf (K := K) rfl) (by rfl) TX.b_tuple (by decide +kernel) (pa_cons (pe_lc (own := [("parent", 3)]) (by rfl) sc_mirror.nd (RT.pi_revA (by rfl) TX.b_reversed (pv 1)) (blkOk_by (own := [("parent", 3)]) (N := N_mirror) (sc := defScope s_mirror) (by decide +kernel)) (fun _ _ _ _ _ => (pg_name (i := 3) sc_mirror.nd rfl (Or.inl rfl))) (fun _ _ _ _ _ => pts_nil) (fun _ _ _ _ _ => (pe_call (ok_mirrored_node TX) (hr.mono (by decide)) (by rfl) TX.g_mirrored_node TX.f_mirrored_node.kp TX.bd_mirrored_node .nil pass0 (pa_cons (pv 3) (pa_cons (pv 2) pa_nil))))) pa_nil)) pa_nil)))))), ?_⟩
    have hl : (t.parOf.map V.int).length = t.size := by rw [List.length_map, parOf_len]
    refine ⟨.ref a, rfl, a, t, rfl, hS, hz, fun H1 p1 ob s1 h1' _ => ?_⟩
    have h1 : SqT K H1 p1 (t.parOf.map V.int) := .inl (.inr ⟨ob, h1'⟩)
    refine ⟨.ref p1, rfl, p1, _, rfl, .inr h1, _, _, rfl, rfl, ?_⟩
    refine ⟨.ref p1, rfl, p1, _, rfl, .inr ⟨h1, fun D nD => ?_⟩⟩
    refine lc_all (K := K) walk_revT (t.mir.parOf.map PyData.int) (by rw [List.length_map, parOf_len, mir_size, hl]) (tf_ints _) (by omega) nD (fun H' s' => Same.tup s' h1) ?_ ?_ (fun x σ' H' Q Q' h => h _ _) (fun σ' H' Q Q' h => h _ _)
    · rintro i x H2 H2' hi s2 ⟨rfl, hx⟩ d hd R hR
      rw [hl] at hx hi
      rw [List.getElem?_map, par_at (by omega)] at hx
      cases hx
      refine ⟨rfl, rfl, _, rfl, _, rfl, _, _, rfl, hR _ _ (Same.refl _) ?_⟩
      rw [List.getElem?_map, mir_parOf, List.getElem?_map, List.getElem?_reverse (by rw [parOf_len]; exact hi), parOf_len, par_at (by omega)] at hd
      have ed : d = .int (mirN t.size (t.parOf.getD (t.size - 1 - i) 0)) := (Option.some.inj hd).symm
      rw [ed, hl, show ((t.size : Int) - 1 + 1) = t.size by omega]
      exact .int _
    · intro H2 acc s2 ha hAcc
      rw [dp_ints_inv hAcc] at ha
      refine ⟨D, _, rfl, .inl ⟨.inl (.inl ha), fun o no => ?_⟩⟩
      exact ⟨o, t.mir, rfl, .inl (.inl upd_same), by rw [mir_size]; exact hz, fun H' p s' h' => q H' p (((s1.trans s2).trans (same_upd no)).trans s') h'⟩
end
/-- the draws' list: a number not below 0, a seed, a count of at most n -/
def Pot (H : Hp) (a : Addr) (n : Int) : Prop := ∃ d s m : Int, H a = some (.lst [.int d, .int s, .int m]) ∧ 0 ≤ d ∧ 0 ≤ s ∧ s < 2 ^ 62 ∧ 0 ≤ m ∧ m ≤ n
theorem Pot.mono {H : Hp} {a : Addr} {n k : Int} (h : Pot H a n) (e : n ≤ k) : Pot H a k := by
  obtain ⟨d, s, m, h1, h2, h3, h4, h5, h6⟩ := h
  exact ⟨d, s, m, h1, h2, h3, h4, h5, by omega⟩
theorem Pot.same {H H' : Hp} {a : Addr} {n : Int} (h : Pot H a n) (e : Same H H') : Pot H' a n := by
  obtain ⟨d, s, m, h1, r⟩ := h
  exact ⟨d, s, m, e _ _ h1, r⟩
theorem Pot.keep {K : PySem.W.Frag} {H H' : Hp} {a : Addr} {n : Int} (h : Pot H a n) (e : But a H H') : Keep K H H' := by
  obtain ⟨d, s, m, h1, r⟩ := h
  exact But.keep e h1
theorem Pot.ne {H : Hp} {a b : Addr} {n : Int} (h : Pot H a n) (e : H b = none) : b ≠ a := fun z => by
  obtain ⟨d, s, m, h1, r⟩ := h
  rw [z, h1] at e; cases e
theorem Pot.upd {H : Hp} {a l : Addr} {n : Int} {o : HO} (h : Pot H a n) (e : l ≠ a) : Pot (L2.upd H l o) a n := by
  obtain ⟨d, s, m, h1, r⟩ := h
  exact ⟨d, s, m, by rw [upd_ne e.symm]; exact h1, r⟩
theorem But.mut {a l : Addr} {H H' : Hp} {o : HO} (b : But a H H') (h : H l = none) : But a H (L2.upd H' l o) := fun c u n e => by
  rw [upd_ne (ne_of_none e h)]; exact b _ _ n e
theorem na_lt {x : Int} {n : Nat} (h0 : 0 ≤ x) (h1 : x < ((2 ^ n : Nat) : Int)) : x.natAbs < 2 ^ n := by omega
theorem bit01 (b : Bool) : (if b = true then (1 : Int) else 0).natAbs < 2 ^ 2 ∧ (0 : Int) ≤ (if b = true then (1 : Int) else 0) := by cases b <;> exact ⟨by decide, by decide⟩
set_option exponentiation.threshold 2000
section
variable {P : Program} {w : World} {K : PySem.W.Frag} {mg : Str → Option Value} {base : Heap}
def sp_L_pot (K : PySem.W.Frag) : Sp := fun vs H Q _ => ∃ (a : Addr) (ns : List Int) (pl : Nat), vs = [.ref a, .int (pl : Int)] ∧ SqL K H a (ns.map V.int) ∧ pl ≤ 62 ∧ ∀ H' p, Same H H' → H p = none → Pot H' p 0 → Q (.ref p) H'
theorem ok_L_pot (TX : Tx K mg) : FnOk P w K mg base CX0 1 TX.a_L_pot TX.fd_L_pot ["_law_script", "_law_k"] (sp_L_pot K) := by
  refine TX.f_L_pot.ok sc_L_pot (fun vs H Q E h => ?_) (fun cdv A outer s H vs Q E hr h => ?_)
  · obtain ⟨a, ns, pl, rfl, _⟩ := h; rfl
  · obtain ⟨a, ns, pl, rfl, hS, hpl, q⟩ := h
    refine ⟨_, (pss_cut (ps_set (i := 2) sc_L_pot.nd rfl (.inl rfl) (pe_ifExp (pt_cmpR op_lt (pv 1) (pe_callB (id := "len") (k_len (K := K) rfl) (by rfl) TX.b_len (by decide +kernel) (pa_cons (pv 0) pa_nil)) (nomark _)) (pe_ix (k_ixL (K := K) rfl) (pv 0) (pv 1) (fun _ _ => rfl)) pe_int))
      (pss_cons (ps_set (i := 3) sc_L_pot.nd rfl (.inl rfl) (pe_op op_mulW (pe_op op_mulW (pe_op op_mulW (pe_op op_mulW (pe_op op_powW pe_int pe_int) (pe_op op_powW pe_int pe_int)) (pe_op op_powW pe_int pe_int)) (pe_op op_powW pe_int pe_int)) (pe_op op_powW pe_int pe_int)))
      (pss_one (ps_ret (pe_lst (pa_cons (pe_op op_mulW (pe_op op_mod (pe_callB (id := "abs") call_abs (by rfl) TX.b_abs (by decide +kernel) (pa_cons (pv 2) pa_nil)) (pv 3)) (pe_callTy (T := "int") call_int1 (by rfl) TX.b_int (by decide +kernel) (pa_cons (pe_cmpR op_ge (pe_callB (id := "abs") call_abs (by rfl) TX.b_abs (by decide +kernel) (pa_cons (pv 2) pa_nil)) (pe_op op_powW pe_int pe_int) (nomark _)) pa_nil))) (pa_cons (pe_op op_add (pe_op op_add (pe_op op_mod (pv 2) pe_int) (pe_op op_mulW pe_int (pv 1))) pe_int) (pa_cons pe_int pa_nil)))))))), ?_⟩
    refine ⟨fun σ H' => ∃ x : Int, σ = [some (.ref a), some (.int (pl : Int)), some (.int x), none] ∧ H' = H, ?_, ?_⟩
    · refine ⟨_, rfl, .ref a, rfl, a, _, rfl, .inl hS, _, _, rfl, rfl, _, rfl, ?_⟩
      refine ite2 (fun h => ?_) (fun h => ?_)
      · have hlt : pl < ns.length := by
          have := of_decide_eq_true h
          rw [List.length_map] at this
          omega
        exact ⟨.ref a, rfl, _, rfl, a, _, _, .int ns[pl], rfl, rfl, hS, atI_nat (by rw [List.getElem?_map, List.getElem?_eq_getElem hlt]; rfl), _, rfl, rfl⟩
      · exact ⟨_, rfl, rfl⟩
    · rintro σ H' ⟨x, rfl, rfl⟩
      have pw : CPowW 10 60 := ⟨by decide, by decide +kernel⟩
      have pb : (10 ^ (60 : Int).toNat : Int).natAbs < 2 ^ 200 := by decide +kernel
      have c2 := wide_lt pb pb
      have c3 := wide_lt c2 pb
      have c4 := wide_lt c3 pb
      refine ⟨_, _, rfl, rfl, pw, _, _, rfl, rfl, pw, _, _, rfl, rfl, wide_mul pb pb (by decide) (by decide) (by decide), _, _, rfl, rfl, pw, _, _, rfl, rfl, wide_mul c2 pb (by decide) (by decide) (by decide), _, _, rfl, rfl, pw, _, _, rfl, rfl, wide_mul c3 pb (by decide) (by decide) (by decide), _, _, rfl, rfl, pw, _, _, rfl, rfl, wide_mul c4 pb (by decide) (by decide) (by decide), ?_⟩
      have P0 : (0 : Int) < 10 ^ (60 : Int).toNat * 10 ^ (60 : Int).toNat * 10 ^ (60 : Int).toNat * 10 ^ (60 : Int).toNat * 10 ^ (60 : Int).toNat := by decide +kernel
      have P1 : (10 ^ (60 : Int).toNat * 10 ^ (60 : Int).toNat * 10 ^ (60 : Int).toNat * 10 ^ (60 : Int).toNat * 10 ^ (60 : Int).toNat : Int) < ((2 ^ 1000 : Nat) : Int) := by decide +kernel
      have c0 := Int.emod_nonneg x (show (2305843009213693951 : Int) ≠ 0 by decide)
      have c1 := Int.emod_lt_of_pos x (show (0 : Int) < 2305843009213693951 by decide)
      refine ⟨_, rfl, _, rfl, _, rfl, _, _, rfl, rfl, P0, _, rfl, _, rfl, _, _, rfl, rfl, ⟨by decide, by decide +kernel⟩, _, _, rfl, rfl, .inr ⟨_, rfl, _, _, rfl, rfl, ?_, ?_⟩⟩
      · exact wide_mul (a := 1000) (b := 2) (na_lt (Int.emod_nonneg _ (Int.ne_of_gt P0)) (Int.lt_trans (Int.emod_lt_of_pos _ P0) P1)) (bit01 _).1 (by decide) (by decide) (by decide)
      · refine ⟨_, rfl, _, _, rfl, rfl, (show (0 : Int) < 2305843009213693951 by decide), _, rfl, _, _, rfl, rfl, wide_mul (a := 17) (b := 7) (by decide) (by omega) (by decide) (by decide) (by decide), _, _, rfl, rfl, _, _, rfl, rfl, sz60 (by simp), fun p np => q _ p (same_upd np) np ?_⟩
        refine ⟨_, _, _, upd_same, ?_, by omega, by omega, by decide, by decide⟩
        exact Int.mul_nonneg (Int.emod_nonneg _ (Int.ne_of_gt P0)) (bit01 _).2
def sp_L_take (K : PySem.W.Frag) : Sp := fun vs H Q _ => ∃ (a : Addr) (z n : Int), vs = [.ref a, .int z] ∧ Pot H a n ∧ n ≤ 1000000 ∧ 1 ≤ z ∧ z ≤ 2000000000 ∧ ∀ H' r, But a H H' → Pot H' a (n + 1) → 0 ≤ r → r < z → Q (.int r) H'
theorem prime_at {m : Int} (h0 : 0 ≤ m) : ∃ v : Int, atI [V.int 2147483647, V.int 2147483629, V.int 2147483587, V.int 2147483579, V.int 2147483563, V.int 2147483549, V.int 2147483543, V.int 2147483497] (m % 8) = some (.int v) ∧ 0 < v ∧ v < 2 ^ 31 := by
  have h : m % 8 = 0 ∨ m % 8 = 1 ∨ m % 8 = 2 ∨ m % 8 = 3 ∨ m % 8 = 4 ∨ m % 8 = 5 ∨ m % 8 = 6 ∨ m % 8 = 7 := by omega
  rcases h with h | h | h | h | h | h | h | h <;> rw [h] <;> exact ⟨_, rfl, by decide, by decide⟩
theorem ok_L_take (TX : Tx K mg) : FnOk P w K mg base CX0 1 TX.a_L_take TX.fd_L_take ["_law_pot_here", "_law_wide"] (sp_L_take K) := by
  refine TX.f_L_take.ok sc_L_take (fun vs H Q E h => ?_) (fun cdv A outer s H vs Q E hr h => ?_)
  · obtain ⟨a, z, n, rfl, _⟩ := h; rfl
  · obtain ⟨a, z, n, rfl, ⟨d, sd, m, hp, hd, hs0, hs1, hm0, hm1⟩, hn, hz1, hz2, q⟩ := h
    refine ⟨_, (pss_cons (ps_if (pt_cmpR op_gt (pe_ix (k_ixL (K := K) rfl) (pv 0) pe_int (fun _ _ => rfl)) pe_int (nomark _))
        (pss_cons (ps_set (i := 2) sc_L_take.nd rfl (.inl rfl) (pe_op op_mod (pe_ix (k_ixL (K := K) rfl) (pv 0) pe_int (fun _ _ => rfl)) (pv 1)))
        (pss_cons (ps_asg (pe_op op_fdivW (pe_ix (k_ixL (K := K) rfl) (pv 0) pe_int (fun _ _ => rfl)) (pv 1)) (pg_sub (pv 0) pe_int set_list))
        (pss_one (ps_ret (pv 2)))))
        pss_nil)
      (pss_cons (ps_asg (pe_op op_add (pe_ix (k_ixL (K := K) rfl) (pv 0) pe_int (fun _ _ => rfl)) pe_int) (pg_sub (pv 0) pe_int set_list))
      (pss_cons (ps_set (i := 3) sc_L_take.nd rfl (.inl rfl) (pe_lst (pa_cons pe_int (pa_cons pe_int (pa_cons pe_int (pa_cons pe_int (pa_cons pe_int (pa_cons pe_int (pa_cons pe_int (pa_cons pe_int pa_nil))))))))))
      (pss_cons (ps_set (i := 4) sc_L_take.nd rfl (.inl rfl) (pe_ix (k_ixL (K := K) rfl) (pv 3) (pe_op op_mod (pe_ix (k_ixL (K := K) rfl) (pv 0) pe_int (fun _ _ => rfl)) pe_int) (fun _ _ => rfl)))
      (pss_cons (ps_set (i := 5) sc_L_take.nd rfl (.inl rfl) (pe_op op_add (pe_op op_mod (pe_op op_mod (pe_op op_add (pe_ix (k_ixL (K := K) rfl) (pv 0) pe_int (fun _ _ => rfl)) (pe_op op_mulW (pe_op op_mulW pe_int (pe_ix (k_ixL (K := K) rfl) (pv 0) pe_int (fun _ _ => rfl))) (pe_ix (k_ixL (K := K) rfl) (pv 0) pe_int (fun _ _ => rfl)))) (pe_op op_pow (pv 4) pe_int)) (pv 4)) pe_int))
      (pss_one (ps_ret (pe_op op_mod (pe_op op_fdivW (pe_op op_mod (pe_op op_mulW (pv 5) (pe_op op_add (pe_op op_mod (pv 5) pe_int) (pe_ix (k_ixL (K := K) rfl) (pv 0) pe_int (fun _ _ => rfl)))) (pv 4)) pe_int) (pv 1))))))))), ?_⟩
    refine ⟨.ref a, rfl, a, _, _, .int d, rfl, rfl, .inl (.inl hp), rfl, _, _, rfl, rfl, _, rfl, ite2 (fun h => ?_) (fun h => ?_)⟩
    · refine ⟨.ref a, rfl, a, _, _, .int d, rfl, rfl, .inl (.inl hp), rfl, _, rfl, _, _, rfl, rfl, (show 0 < z by omega), ?_⟩
      refine ⟨.ref a, rfl, a, _, _, .int d, rfl, rfl, .inl (.inl hp), rfl, _, rfl, _, _, rfl, rfl, wide_div (b := 32) (by omega) (by omega) (by decide) (by decide), .ref a, rfl, a, _, 0, 0, rfl, rfl, hp, rfl, ?_⟩
      refine ⟨_, rfl, q _ _ But.upd ⟨d / z, sd, m, upd_same, Int.ediv_nonneg hd (by omega), hs0, hs1, hm0, by omega⟩ (Int.emod_nonneg _ (by omega)) (Int.emod_lt_of_pos _ (by omega))⟩
    · refine ⟨.ref a, rfl, a, _, _, .int m, rfl, rfl, .inl (.inl hp), rfl, _, _, rfl, rfl, ?_⟩
      refine ⟨.ref a, rfl, a, _, 2, 2, rfl, rfl, hp, rfl, ?_⟩
      have hp1 : (upd H a (.lst (List.set [V.int d, V.int sd, V.int m] 2 (V.int (m + 1))))) a = some (.lst [V.int d, V.int sd, V.int (m + 1)]) := upd_same
      have b1 : But a H (upd H a (.lst (List.set [V.int d, V.int sd, V.int m] 2 (V.int (m + 1))))) := But.upd
      generalize upd H a (.lst (List.set [V.int d, V.int sd, V.int m] 2 (V.int (m + 1)))) = H1 at hp1 b1 ⊢
      refine ⟨sz60 (by simp), fun pl npl => ?_⟩
      have s2 := same_upd (o := .lst [V.int 2147483647, V.int 2147483629, V.int 2147483587, V.int 2147483579, V.int 2147483563, V.int 2147483549, V.int 2147483543, V.int 2147483497]) npl
      have hp2 := s2 _ _ hp1
      obtain ⟨pr, hpr, pr0, pr1⟩ := prime_at (m := m + 1) (by omega)
      refine ⟨_, rfl, .ref a, rfl, a, _, _, .int (m + 1), rfl, rfl, .inl (.inl hp2), rfl, _, _, rfl, rfl, (show (0 : Int) < 8 by decide), pl, _, _, .int pr, rfl, rfl, .inl (.inl upd_same), hpr, ?_⟩
      have k1 : (m + 1) * (m + 1) ≤ 1000001 * 1000001 := Int.mul_le_mul (by omega) (by omega) (by omega) (by omega)
      have k2 : (0 : Int) ≤ (m + 1) * (m + 1) := Int.mul_nonneg (by omega) (by omega)
      have k3 : 69621 * (m + 1) * (m + 1) = 69621 * ((m + 1) * (m + 1)) := Int.mul_assoc _ _ _
      have p2 : (0 : Int) < pr ^ (2 : Int).toNat := Int.pow_pos pr0
      refine ⟨.ref a, rfl, a, _, _, .int sd, rfl, rfl, .inl (.inl hp2), rfl, .ref a, rfl, a, _, _, .int (m + 1), rfl, rfl, .inl (.inl hp2), rfl, _, _, rfl, rfl, wide_mul (a := 17) (b := 21) (by decide) (by omega) (by decide) (by decide) (by decide), .ref a, rfl, a, _, _, .int (m + 1), rfl, rfl, .inl (.inl hp2), rfl, _, _, rfl, rfl, wide_mul (a := 38) (b := 21) (by omega) (by omega) (by decide) (by decide) (by decide), _, _, rfl, rfl, _, rfl, _, _, rfl, rfl, ⟨by decide, by decide, by omega⟩, _, _, rfl, rfl, p2, _, rfl, _, _, rfl, rfl, pr0, _, _, rfl, rfl, ?_⟩
      generalize hmx : (sd + 69621 * (m + 1) * (m + 1)) % pr ^ (2 : Int).toNat % pr = mx
      have mx0 : 0 ≤ mx := by rw [← hmx]; exact Int.emod_nonneg _ (by omega)
      have mx1 : mx < pr := by rw [← hmx]; exact Int.emod_lt_of_pos _ pr0
      refine ⟨_, rfl, _, rfl, _, _, rfl, rfl, (show (0 : Int) < 1009 by decide), .ref a, rfl, a, _, _, .int (m + 1), rfl, rfl, .inl (.inl hp2), rfl, _, _, rfl, rfl, _, _, rfl, rfl, wide_mul (a := 32) (b := 22) (by omega) (by omega) (by decide) (by decide) (by decide), _, rfl, _, _, rfl, rfl, pr0, _, _, rfl, rfl, wide_div (b := 3) (by decide) (by decide) (by decide) (by decide), _, rfl, _, _, rfl, rfl, (show 0 < z by omega), ?_⟩
      exact q _ _ (b1.trans (But.of s2)) ⟨d, sd, m + 1, hp2, hd, hs0, hs1, by omega, by omega⟩ (Int.emod_nonneg _ (by omega)) (Int.emod_lt_of_pos _ (by omega))
def sp_L_of (K : PySem.W.Frag) : Sp := fun vs H Q _ => ∃ (a l : Addr) (xs : List V) (n : Int), vs = [.ref a, .ref l] ∧ Pot H a n ∧ n ≤ 1000000 ∧ H l = some (.lst xs) ∧ l ≠ a ∧ xs ≠ [] ∧ xs.length ≤ 1000 ∧ ∀ H' v, But a H H' → Pot H' a (n + 1) → v ∈ xs → Q v H'
theorem ok_L_of (TX : Tx K mg) : FnOk P w K mg base CX0 2 TX.a_L_of TX.fd_L_of ["_law_pot_here", "_law_some"] (sp_L_of K) := by
  refine TX.f_L_of.ok sc_L_of (fun vs H Q E h => ?_) (fun cdv A outer s H vs Q E hr h => ?_)
  · obtain ⟨a, l, xs, n, rfl, _⟩ := h; rfl
  · obtain ⟨a, l, xs, n, rfl, hp, hn, hl, nla, hne, hlen, q⟩ := h
    refine ⟨_, (pss_one (ps_ret (pe_ix (k_ixL (K := K) rfl) (pv 1) (pe_call (ok_L_take TX) (hr.mono (by decide)) (by rfl) TX.g_L_take TX.f_L_take.kp TX.bd_L_take .nil pass0 (pa_cons (pv 0) (pa_cons (pe_callB (id := "len") (k_len (K := K) rfl) (by rfl) TX.b_len (by decide +kernel) (pa_cons (pv 1) pa_nil)) pa_nil))) (fun _ _ => rfl)))), ?_⟩
    have h0 : 0 < xs.length := List.length_pos_iff.mpr hne
    refine ⟨.ref l, rfl, .ref a, rfl, .ref l, rfl, l, _, rfl, .inl (.inl (.inl hl)), a, _, n, rfl, hp, hn, by omega, by omega, fun H' r b1 p1 r0 r1 => ?_⟩
    have er : r = ((r.toNat : Nat) : Int) := by omega
    have hr1 : r.toNat < xs.length := by omega
    have hat : atI xs r = some xs[r.toNat] := by
      have := atI_nat (List.getElem?_eq_getElem hr1)
      rwa [← er] at this
    exact ⟨l, xs, r, xs[r.toNat], rfl, rfl, .inl (.inl (b1 _ _ nla hl)), hat, q _ _ b1 p1 (List.getElem_mem ..)⟩
end
theorem But.free {a l : Addr} {H H' : Hp} (b : But a H H') (h : H' l = none) (n : l ≠ a) : H l = none := by
  cases e : H l with
  | none => rfl
  | some o => rw [b _ _ n e] at h; cases h
theorem at_mem {xs : List V} {r : Int} (r0 : 0 ≤ r) (r1 : r < (xs.length : Int)) : ∃ v, atI xs r = some v ∧ v ∈ xs := by
  have er : r = ((r.toNat : Nat) : Int) := by omega
  have hr1 : r.toNat < xs.length := by omega
  refine ⟨xs[r.toNat], ?_, List.getElem_mem ..⟩
  have := atI_nat (List.getElem?_eq_getElem hr1)
  rwa [← er] at this
section
variable {P : Program} {w : World} {K : PySem.W.Frag} {mg : Str → Option Value} {base : Heap}
def sp_L_load (K : PySem.W.Frag) : Sp := fun vs H Q _ => ∃ (a : Addr) (k : Nat) (wd n : Int), vs = [.ref a, .int (k : Int), .int wd] ∧ Pot H a n ∧ n ≤ 900000 ∧ k ≤ 100 ∧ 1 ≤ wd ∧ wd ≤ 1000000000 ∧
  ∀ H' p (ns : List Int), But a H H' → Pot H' a (n + 402) → ns.length = k → (∀ x, x ∈ ns → 0 ≤ x ∧ (x ≤ wd ∨ x ≤ 3)) → SqT K H' p (ns.map V.int) → Q (.ref p) H'
theorem ok_L_load (TX : Tx K mg) : FnOk P w K mg base CX0 3 TX.a_L_load TX.fd_L_load ["_law_pot_here", "_law_count", "_law_wide"] (sp_L_load K) := by
  refine TX.f_L_load.ok sc_L_load (fun vs H Q E h => ?_) (fun cdv A outer s H vs Q E hr h => ?_)
  · obtain ⟨a, k, wd, n, rfl, _⟩ := h; rfl
  · obtain ⟨a, k, wd, n, rfl, hp, hn, hk, hw1, hw2, q⟩ := h
    refine ⟨_, (pss_cons (ps_par (i := 3) (j := 4) (by rfl) sc_L_load.nd rfl rfl (by decide) rfl rfl (pa_cons (pe_call (ok_L_take TX) (hr.mono (by decide)) (by rfl) TX.g_L_take TX.f_L_take.kp TX.bd_L_take .nil pass0 (pa_cons (pv 0) (pa_cons pe_int pa_nil))) (pa_cons (pe_call (ok_L_take TX) (hr.mono (by decide)) (by rfl) TX.g_L_take TX.f_L_take.kp TX.bd_L_take .nil pass0 (pa_cons (pv 0) (pa_cons (pe_op op_add (pv 2) pe_int) pa_nil))) pa_nil)) (by rfl))
      (pss_cons (ps_set (i := 5) sc_L_load.nd rfl (.inl rfl) (pe_lst pa_nil))
      (pss_cons (ps_for PassesOwn.never rfl (pi_range1 (by rfl) TX.b_range (pa_cons (pv 1) pa_nil)) (pg_name (i := 6) sc_L_load.nd rfl (.inl rfl))
        (pss_cons (ps_set (i := 7) sc_L_load.nd rfl (.inl rfl) (pe_lst (pa_cons pe_int (pa_cons (pv 4) (pa_cons (pe_call (ok_L_take TX) (hr.mono (by decide)) (by rfl) TX.g_L_take TX.f_L_take.kp TX.bd_L_take .nil pass0 (pa_cons (pv 0) (pa_cons pe_int pa_nil))) (pa_cons (pe_op op_sub (pv 2) (pe_call (ok_L_take TX) (hr.mono (by decide)) (by rfl) TX.g_L_take TX.f_L_take.kp TX.bd_L_take .nil pass0 (pa_cons (pv 0) (pa_cons (pe_callB (id := "min") (call_min2 rfl) (by rfl) TX.b_min (by decide +kernel) (pa_cons (pv 2) (pa_cons pe_int pa_nil))) pa_nil)))) (pa_cons (pe_call (ok_L_of TX) (hr.mono (by decide)) (by rfl) TX.g_L_of TX.f_L_of.kp TX.bd_L_of .nil pass0 (pa_cons (pv 0) (pa_cons (pe_lst (pa_cons pe_int (pa_cons pe_int (pa_cons pe_int (pa_cons (pv 2) pa_nil))))) pa_nil))) (pa_cons pe_int pa_nil))))))))
        (pss_one (ps_expr (pe_bm PySem.F.plainAttrs_list PySem.F.slot_list_append PySem.F.type_list_append mt_append (pv 5) (pa_cons (pe_ifExp (pt_cmpR op_lt (pv 3) pe_int (nomark _)) (pe_ix (k_ixL (K := K) rfl) (pv 7) (pv 3) (fun _ _ => rfl)) (pe_call (ok_L_take TX) (hr.mono (by decide)) (by rfl) TX.g_L_take TX.f_L_take.kp TX.bd_L_take .nil pass0 (pa_cons (pv 0) (pa_cons (pe_op op_add (pv 2) pe_int) pa_nil)))) pa_nil))))))
      (pss_one (ps_ret (pe_callTy (T := "tuple") (k_tupOf (K := K) rfl) (by rfl) TX.b_tuple (by decide +kernel) (pa_cons (pv 5) pa_nil))))))), ?_⟩
    refine ⟨.ref a, rfl, a, 6, n, rfl, hp, by omega, by decide, by decide, fun H1 sy b1 p1 y0 y1 => ?_⟩
    refine ⟨.ref a, rfl, _, rfl, _, _, rfl, rfl, a, wd + 1, _, rfl, p1, by omega, by omega, by omega, fun H2 lv b2 p2 l0 l1 => ?_⟩
    have b12 := b1.trans b2
    refine ⟨_, _, rfl, sz60 (by simp), fun l nl => ?_⟩
    have s3 := same_upd (o := .lst []) nl
    have nla : l ≠ a := p2.ne nl
    have nlH : H l = none := But.free b12 nl nla
    refine ⟨_, rfl, _, rfl, by omega, by omega, for_range (lo := 0) (n := ((k : Nat) : Int).toNat) (fun i σ H' => ∃ (y6 y7 : Option V) (ns : List Int), σ = [some (.ref a), some (.int (k : Int)), some (.int wd), some (.int sy), some (.int lv), some (.ref l), y6, y7] ∧ But a H H' ∧ Pot H' a (n + 2 + 4 * (i : Int)) ∧ H' l = some (.lst (ns.map V.int)) ∧ ns.length = i ∧ ∀ x, x ∈ ns → 0 ≤ x ∧ (x ≤ wd ∨ x ≤ 3))
      ⟨none, none, [], rfl, b12.trans (But.of s3), (p2.same s3).mono (by omega), upd_same, rfl, by simp⟩ ?_ ?_⟩
    · rintro i σ H3 hi ⟨y6, y7, ns, rfl, b3, p3, hl3, hnl, hB⟩
      have hi' : i < k := by omega
      refine ⟨_, rfl, .ref a, rfl, a, 4, _, rfl, p3, by omega, by decide, by decide, fun H4 r1 b4 p4 r10 r11 => ?_⟩
      refine ⟨_, rfl, .ref a, rfl, _, rfl, _, _, rfl, a, _, _, rfl, p4, by omega, by split <;> omega, by split <;> omega, fun H5 r2 b5 p5 r20 r21 => ?_⟩
      have hr2 : r2 < wd := by
        revert r21
        split <;> omega
      refine ⟨_, _, rfl, rfl, .ref a, rfl, _, rfl, sz60 (by simp), fun o no => ?_⟩
      have s6 := same_upd (o := .lst [V.int 0, V.int 0, V.int 0, V.int wd]) no
      refine ⟨a, o, _, _, rfl, p5.same s6, by omega, upd_same, p5.ne no, by simp, by simp, fun H7 v b7 p7 hv => ?_⟩
      obtain ⟨x, rfl, hx⟩ : ∃ x : Int, v = .int x ∧ 0 ≤ x ∧ (x ≤ wd ∨ x ≤ 3) := by
        simp only [List.mem_cons, List.not_mem_nil, or_false] at hv
        rcases hv with rfl | rfl | rfl | rfl
        · exact ⟨0, rfl, by omega, by omega⟩
        · exact ⟨0, rfl, by omega, by omega⟩
        · exact ⟨0, rfl, by omega, by omega⟩
        · exact ⟨wd, rfl, by omega, by omega⟩
      refine ⟨sz60 (by simp), fun o2 no2 => ?_⟩
      have b37 : But a H3 H7 := ((b4.trans b5).trans (But.of s6)).trans b7
      have hl7 : H7 l = some (.lst (ns.map V.int)) := b37 _ _ nla hl3
      have s8 := same_upd (o := .lst [V.int 0, V.int lv, V.int r1, V.int (wd - r2), V.int x, V.int 0]) no2
      have hl8 := s8 _ _ hl7
      have p8 := p7.same s8
      have b38 : But a H (upd H7 o2 (.lst [V.int 0, V.int lv, V.int r1, V.int (wd - r2), V.int x, V.int 0])) := (b3.trans b37).trans (But.of s8)
      refine ⟨.ref l, rfl, .inl ⟨rfl, _, .inl (.inl hl8)⟩, _, rfl, _, _, rfl, rfl, _, rfl, ite2 (fun h => ?_) (fun h => ?_)⟩
      · have hs5 : sy < 5 := by simpa using h
        obtain ⟨v, hv1, hv2⟩ := at_mem (xs := [V.int 0, V.int lv, V.int r1, V.int (wd - r2), V.int x, V.int 0]) (r := sy) y0 (by simp; omega)
        obtain ⟨x', rfl, hx'⟩ : ∃ x : Int, v = .int x ∧ 0 ≤ x ∧ (x ≤ wd ∨ x ≤ 3) := by
          simp only [List.mem_cons, List.not_mem_nil, or_false] at hv2
          rcases hv2 with rfl | rfl | rfl | rfl | rfl | rfl
          · exact ⟨0, rfl, by omega, by omega⟩
          · exact ⟨lv, rfl, by omega, by omega⟩
          · exact ⟨r1, rfl, by omega, by omega⟩
          · exact ⟨wd - r2, rfl, by omega, by omega⟩
          · exact ⟨x, rfl, hx⟩
          · exact ⟨0, rfl, by omega, by omega⟩
        refine ⟨.ref o2, rfl, _, rfl, o2, _, _, _, rfl, rfl, .inl (.inl upd_same), hv1, l, _, _, rfl, rfl, hl8, sz61 (by rw [List.length_map]; omega), ?_⟩
        refine ⟨_, _, ns ++ [x'], rfl, But.mut b38 nlH, (p8.upd nla).mono (by omega), by rw [upd_same, List.map_append]; rfl, by simp [hnl], fun y hy => ?_⟩
        rcases List.mem_append.mp hy with hy | hy
        · exact hB y hy
        · rw [List.mem_singleton.mp hy]; exact hx'
      · refine ⟨.ref a, rfl, _, rfl, _, _, rfl, rfl, a, wd + 1, _, rfl, p8, by omega, by omega, by omega, fun H9 r3 b9 p9 r30 r31 => ?_⟩
        have hl9 := b9 _ _ nla hl8
        refine ⟨l, _, _, rfl, rfl, hl9, sz61 (by rw [List.length_map]; omega), ?_⟩
        refine ⟨_, _, ns ++ [r3], rfl, But.mut (b38.trans b9) nlH, (p9.upd nla).mono (by omega), by rw [upd_same, List.map_append]; rfl, by simp [hnl], fun y hy => ?_⟩
        rcases List.mem_append.mp hy with hy | hy
        · exact hB y hy
        · rw [List.mem_singleton.mp hy]; exact ⟨by omega, by omega⟩
    · rintro σ H3 ⟨y6, y7, ns, rfl, b3, p3, hl3, hnl, hB⟩
      refine ⟨.ref l, rfl, l, _, rfl, .inl ⟨.inl (.inl hl3), fun p np => ?_⟩⟩
      exact q _ p ns (b3.trans (But.of (same_upd np))) ((p3.same (same_upd np)).mono (by omega)) (by omega) hB (.inl (.inl upd_same))
end
theorem dpBoolsI {K : PySem.W.Frag} {H : Hp} : ∀ {vs : List V} {bs : List Bool}, DpAll K H vs (bs.map PyData.bool) → vs = bs.map V.bl
  | _, [], .nil => rfl
  | _, _ :: _, .cons a b => by
    cases a
    rw [dpBoolsI b]; rfl
section
variable {P : Program} {w : World} {K : PySem.W.Frag} {mg : Str → Option Value} {base : Heap}
/-- sizes or reads -/
def Lds (ns : List Int) : Prop := ∀ x, x ∈ ns → 0 ≤ x ∧ x ≤ 1000000000
def sp_are_loads (K : PySem.W.Frag) : Sp := fun vs H Q _ => ∃ (a : Addr) (ns : List Int) (lo hi : Int), vs = [.ref a, .int lo, .int hi] ∧ SqT K H a (ns.map V.int) ∧ Lds ns ∧ lo ≤ (ns.length : Int) ∧ (ns.length : Int) ≤ hi ∧ ns.length ≤ 1000 ∧ ∀ H', Same H H' → Q (.bl true) H'
theorem ok_are_loads (TX : Tx K mg) : FnOk P w K mg base CX0 4 TX.a_are_loads TX.fd_are_loads ["value", "fewest", "most"] (sp_are_loads K) := by
  refine TX.f_are_loads.ok sc_are_loads (fun vs H Q E h => ?_) (fun cdv A outer s H vs Q E hr h => ?_)
  · obtain ⟨a, ns, lo, hi, rfl, _⟩ := h; rfl
  · obtain ⟨a, ns, lo, hi, rfl, hS, hL, h1, h2, h3, q⟩ := h
    have hlen : ((ns.map V.int).length : Int) = (ns.length : Int) := by rw [List.length_map]
    refine ⟨_, (pss_cons (ps_if (PW.pt (pw_or (pt_not (pt_val (pe_callB (id := "isinstance") (k_isi (K := K) rfl) (by rfl) TX.b_isinstance (by decide +kernel) (pa_cons (pv 0) (pa_cons (pe_bltn (v := .ty "tuple") (by rfl) TX.b_tuple (by decide +kernel) rfl) pa_nil))))) (pw_or1 (pt_not (pt_chain op_le op_le (pv 1) (pe_callB (id := "len") (k_len (K := K) rfl) (by rfl) TX.b_len (by decide +kernel) (pa_cons (pv 0) pa_nil)) (pv 2))))))
        (pss_one (ps_ret pe_bl))
        pss_nil)
      (pss_one (ps_ret (pe_callB (id := "all") (cr_all rfl) (by rfl) TX.b_all (by decide +kernel) (pa_cons (pe_lc (own := [("load", 3)]) (by rfl) sc_are_loads.nd (k_piT (K := K) rfl (pv 0)) (blkOk_by (own := [("load", 3)]) (N := N_are_loads) (sc := defScope s_are_loads) (by decide +kernel)) (fun _ _ _ _ _ => (pg_name (i := 3) sc_are_loads.nd rfl (Or.inl rfl))) (fun _ _ _ _ _ => pts_nil) (fun _ _ _ _ _ => (pe_call (ok_is_count_up_to TX) (hr.mono (by decide)) (by rfl) TX.g_is_count_up_to TX.f_is_count_up_to.kp TX.bd_is_count_up_to .nil pass0 (pa_cons (pv 3) (pa_cons (pe_glob (v := .int (1000000000)) (by rfl) TX.c_MOST_LOAD ⟨_, rfl⟩) pa_nil))))) pa_nil))))), ?_⟩
    refine ⟨.ref a, rfl, .ref a, .ty "tuple", .type "tuple", .type "tuple", true, rfl, .ty _, ty_tup hS, kit_ty (by decide +kernel), true, rfl, iteF ⟨_, rfl, .ref a, rfl, a, _, rfl, .inr hS, _, _, rfl, rfl, _, rfl, ?_⟩⟩
    refine decT (by rw [hlen]; exact h1) ⟨_, rfl, _, _, rfl, rfl, _, rfl, iteB0 (by rw [hlen, decide_eq_true h2]; rfl) ?_⟩
    refine ⟨.ref a, rfl, a, rfl, ⟨_, hS⟩, fun D nD => ?_⟩
    refine lc_all (K := K) (walk_tup (xs := ns.map V.int)) ((List.replicate ns.length true).map PyData.bool) (by rw [List.length_map, List.length_replicate, List.length_map]) (fun d h => by obtain ⟨b, _, rfl⟩ := List.mem_map.mp h; exact .bl b) (by rw [List.length_map]; exact h3) nD (fun H' s' => Same.tup s' hS) ?_ ?_ (fun x σ' H' Q Q' h => h _ _) (fun σ' H' Q Q' h => h _ _)
    · rintro i x Hx Hx' hi sx ⟨rfl, hx⟩ d hd R hR
      rw [List.getElem?_map, Option.map_eq_some_iff] at hx
      obtain ⟨z, hz, rfl⟩ := hx
      have hz2 := hL z (List.mem_of_getElem? hz)
      refine ⟨rfl, rfl, _, rfl, z, 1000000000, rfl, hR _ _ (Same.refl _) ?_⟩
      rw [decide_eq_true hz2.1, decide_eq_true hz2.2]
      rw [List.getElem?_map, List.getElem?_replicate, if_pos (by rw [List.length_map] at hi; exact hi)] at hd
      cases hd
      exact .bl true
    · intro H2 acc s2 ha hA
      rw [dpBoolsI hA] at ha
      refine ⟨D, List.replicate ns.length true, rfl, .inl (.inl ha), ?_⟩
      have e : (List.replicate ns.length true).all id = true := by simp
      rw [e]
      exact q _ s2
def sp_check_sizes (K : PySem.W.Frag) : Sp := fun vs H Q _ => ∃ (a : Addr) (ns : List Int) (lo hi : Int), vs = [.ref a, .int lo, .int hi] ∧ SqT K H a (ns.map V.int) ∧ Lds ns ∧ lo ≤ (ns.length : Int) ∧ (ns.length : Int) ≤ hi ∧ ns.length ≤ 1000 ∧ ∀ H', Same H H' → Q .non H'
theorem ok_check_sizes (TX : Tx K mg) : FnOk P w K mg base CX0 5 TX.a_check_sizes TX.fd_check_sizes ["sizes", "fewest", "most"] (sp_check_sizes K) := by
  refine TX.f_check_sizes.ok sc_check_sizes (fun vs H Q E h => ?_) (fun cdv A outer s H vs Q E hr h => ?_)
  · obtain ⟨a, ns, lo, hi, rfl, _⟩ := h; rfl
  · obtain ⟨a, ns, lo, hi, rfl, hS, hL, h1, h2, h3, q⟩ := h
    refine ⟨_, (pss_one (ps_if (pt_not (pt_val (pe_call (ok_are_loads TX) (hr.mono (by decide)) (by rfl) TX.g_are_loads TX.f_are_loads.kp TX.bd_are_loads .nil pass0 (pa_cons (pv 0) (pa_cons (pv 1) (pa_cons (pv 2) pa_nil))))))
        (pss_one ps_never)
        pss_nil)), ?_⟩
    exact ⟨.ref a, rfl, .int lo, rfl, .int hi, rfl, a, ns, lo, hi, rfl, hS, hL, h1, h2, h3, fun H' s' => ⟨true, rfl, iteF (q H' s')⟩⟩
def sp_check_reads (K : PySem.W.Frag) : Sp := fun vs H Q _ => ∃ (a : Addr) (ns : List Int), vs = [.ref a, .int (ns.length : Int)] ∧ SqT K H a (ns.map V.int) ∧ Lds ns ∧ ns.length ≤ 1000 ∧ ∀ H', Same H H' → Q .non H'
theorem ok_check_reads (TX : Tx K mg) : FnOk P w K mg base CX0 5 TX.a_check_reads TX.fd_check_reads ["reads", "flushes"] (sp_check_reads K) := by
  refine TX.f_check_reads.ok sc_check_reads (fun vs H Q E h => ?_) (fun cdv A outer s H vs Q E hr h => ?_)
  · obtain ⟨a, ns, rfl, _⟩ := h; rfl
  · obtain ⟨a, ns, rfl, hS, hL, h3, q⟩ := h
    refine ⟨_, (pss_one (ps_if (pt_not (pt_val (pe_call (ok_are_loads TX) (hr.mono (by decide)) (by rfl) TX.g_are_loads TX.f_are_loads.kp TX.bd_are_loads .nil pass0 (pa_cons (pv 0) (pa_cons (pv 1) (pa_cons (pv 1) pa_nil))))))
        (pss_one ps_never)
        pss_nil)), ?_⟩
    exact ⟨.ref a, rfl, .int _, rfl, .int _, rfl, a, ns, _, _, rfl, hS, hL, Int.le_refl _, Int.le_refl _, h3, fun H' s' => ⟨true, rfl, iteF (q H' s')⟩⟩
def sp_check_loads (K : PySem.W.Frag) : Sp := fun vs H Q _ => ∃ (a b : Addr) (ss rs : List Int) (m : Int), vs = [.ref a, .ref b, .int m] ∧ SqT K H a (ss.map V.int) ∧ SqT K H b (rs.map V.int) ∧ Lds ss ∧ Lds rs ∧ ss.length = rs.length ∧ (ss.length : Int) ≤ m ∧ ss.length ≤ 1000 ∧ ∀ H', Same H H' → Q .non H'
theorem ok_check_loads (TX : Tx K mg) : FnOk P w K mg base CX0 6 TX.a_check_loads TX.fd_check_loads ["sizes", "reads", "most"] (sp_check_loads K) := by
  refine TX.f_check_loads.ok sc_check_loads (fun vs H Q E h => ?_) (fun cdv A outer s H vs Q E hr h => ?_)
  · obtain ⟨a, b, ss, rs, m, rfl, _⟩ := h; rfl
  · obtain ⟨a, b, ss, rs, m, rfl, hA, hB, hs, hr', he, h1, h3, q⟩ := h
    refine ⟨_, (pss_cons (ps_expr (pe_call (ok_check_sizes TX) (hr.mono (by decide)) (by rfl) TX.g_check_sizes TX.f_check_sizes.kp TX.bd_check_sizes .nil pass0 (pa_cons (pv 0) (pa_cons pe_int (pa_cons (pv 2) pa_nil)))))
      (pss_one (ps_expr (pe_call (ok_check_reads TX) (hr.mono (by decide)) (by rfl) TX.g_check_reads TX.f_check_reads.kp TX.bd_check_reads .nil pass0 (pa_cons (pv 1) (pa_cons (pe_callB (id := "len") (k_len (K := K) rfl) (by rfl) TX.b_len (by decide +kernel) (pa_cons (pv 0) pa_nil)) pa_nil)))))), ?_⟩
    refine ⟨.ref a, rfl, .int m, rfl, a, ss, 0, m, rfl, hA, hs, by omega, h1, h3, fun H1 s1 => ?_⟩
    refine ⟨.ref b, rfl, .ref a, rfl, a, _, rfl, .inr (Same.tup s1 hA), b, rs, ?_, Same.tup s1 hB, hr', by omega, fun H2 s2 => q _ (s1.trans s2)⟩
    rw [List.length_map, he]; rfl
end
/-- the sum of the loads, each times its count -/
def dot (xs : List Int) (ns : List Nat) : Int := (List.zipWith (fun (x : Int) (n : Nat) => x * (n : Int)) xs ns).sum
theorem wr_le : ∀ (t : T) (n : Nat), n ∈ t.wr → n ≤ t.size
  | .nil, n, h => by cases h
  | .node l r, n, h => by
    simp only [T.wr, List.mem_append, List.mem_map, List.mem_cons] at h
    simp only [T.size]
    rcases h with ⟨m, hm, rfl⟩ | rfl | hm
    · have := wr_le l m hm; omega
    · omega
    · have := wr_le r n hm; omega
theorem rc_le : ∀ (t : T) (n : Nat), n ∈ t.rc → n ≤ t.size
  | .nil, n, h => by cases h
  | .node l r, n, h => by
    simp only [T.rc, List.mem_append, List.mem_map, List.mem_cons] at h
    simp only [T.size]
    rcases h with hm | rfl | ⟨m, hm, rfl⟩
    · have := rc_le l n hm; omega
    · omega
    · have := rc_le r m hm; omega
theorem dot_bd : ∀ {xs : List Int} {ns : List Nat}, Lds xs → (∀ n, n ∈ ns → n ≤ 60) → 0 ≤ dot xs ns ∧ dot xs ns ≤ (xs.length : Int) * 60000000000
  | [], _, _, _ => by simp [dot]
  | _ :: _, [], _, _ => by simp [dot]; omega
  | x :: xs, n :: ns, h1, h2 => by
    have ih := dot_bd (xs := xs) (ns := ns) (fun y hy => h1 y (List.mem_cons_of_mem _ hy)) fun m hm => h2 m (List.mem_cons_of_mem _ hm)
    have a := h1 x (List.mem_cons_self ..)
    have b := h2 n (List.mem_cons_self ..)
    have c : x * (n : Int) ≤ 1000000000 * 60 := Int.mul_le_mul a.2 (by omega) (by omega) (by omega)
    have d : 0 ≤ x * (n : Int) := Int.mul_nonneg a.1 (by omega)
    have e : dot (x :: xs) (n :: ns) = x * (n : Int) + dot xs ns := by simp [dot]
    rw [e, List.length_cons]
    omega
section
variable {P : Program} {w : World} {K : PySem.W.Frag} {mg : Str → Option Value} {base : Heap}
def sp_weighted (K : PySem.W.Frag) : Sp := fun vs H Q _ => ∃ (a b : Addr) (xs : List Int) (ns : List Nat), vs = [.ref a, .ref b] ∧ SqT K H a (xs.map V.int) ∧ SqT K H b (vi ns) ∧ xs.length = ns.length ∧ xs.length ≤ 60 ∧ Lds xs ∧ (∀ n, n ∈ ns → n ≤ 60) ∧ ∀ H', Same H H' → Q (.int (dot xs ns)) H'
theorem ok_weighted (TX : Tx K mg) : FnOk P w K mg base CX0 1 TX.a_weighted TX.fd_weighted ["loads", "counts"] (sp_weighted K) := by
  refine TX.f_weighted.ok sc_weighted (fun vs H Q E h => ?_) (fun cdv A outer s H vs Q E hr h => ?_)
  · obtain ⟨a, b, xs, ns, rfl, _⟩ := h; rfl
  · obtain ⟨a, b, xs, ns, rfl, hA, hB, he, hz, hL, hn, q⟩ := h
    refine ⟨_, (pss_one (ps_ret (pe_callB (id := "sum") (cr_sum rfl) (by rfl) TX.b_sum (by decide +kernel) (pa_cons (pe_lc (own := [("load", 2), ("count", 3)]) (by rfl) sc_weighted.nd (RZ.pi_zipA (by rfl) TX.b_zip (pa_cons (pv 0) (pa_cons (pv 1) pa_nil))) (blkOk_by (own := [("load", 2), ("count", 3)]) (N := N_weighted) (sc := defScope s_weighted) (by decide +kernel)) (fun _ _ _ _ _ => (k_pgT2 (K := K) rfl rfl (pg_name (i := 2) sc_weighted.nd rfl (Or.inl rfl)) (pg_name (i := 3) sc_weighted.nd rfl (Or.inl rfl)))) (fun _ _ _ _ _ => pts_nil) (fun _ _ _ _ _ => (pe_op op_mulW (pv 2) (pv 3)))) pa_nil)))), ?_⟩
    refine ⟨.ref a, rfl, .ref b, rfl, a, b, _, _, rfl, .inr ⟨hA, hB, fun D nD => ?_⟩⟩
    refine lc_all (K := K) (walk_zipT (xs := xs.map V.int) (ys := vi ns) rfl) ((List.zipWith (fun (x : Int) (n : Nat) => x * (n : Int)) xs ns).map PyData.int) (by simp [vi]) (tf_ints _) (by simp [vi]; omega) nD (fun H' s' => ⟨Same.tup s' hA, Same.tup s' hB⟩) ?_ ?_ mono_pair (fun σ' H' Q Q' h => h _ _)
    · rintro i x Hx Hx' hi sx ⟨T, x1, x2, rfl, nT, rfl, e1, e2⟩ d hd R hR
      dsimp only at e1 e2
      have hix : i < xs.length := by simp [vi] at hi; omega
      have hiy : i < ns.length := by omega
      rw [List.getElem?_map, List.getElem?_eq_getElem hix] at e1
      rw [vi_get (List.getElem?_eq_getElem hiy)] at e2
      cases e1; cases e2
      rw [List.getElem?_map, List.getElem?_zipWith, List.getElem?_eq_getElem hix, List.getElem?_eq_getElem hiy] at hd
      cases hd
      have b1 := hL _ (List.getElem_mem hix)
      have b2 := hn _ (List.getElem_mem hiy)
      exact ⟨T, _, rfl, .inl (.inl upd_same), rfl, _, _, rfl, _, _, rfl, rfl, rfl, rfl, _, rfl, _, rfl, _, _, rfl, rfl, wide_mul (a := 31) (b := 8) (by omega) (by omega) (by decide) (by decide) (by decide), hR _ _ (same_upd nT) (.int _)⟩
    · intro H5 acc s5 ha hA5
      rw [dp_ints_inv hA5] at ha
      exact ⟨D, _, rfl, .inl (.inl ha), q _ s5⟩
def sp_write_work (K : PySem.W.Frag) : Sp := fun vs H Q _ => ∃ (a b : Addr) (t : T) (ss : List Int), vs = [.ref a, .ref b] ∧ SqT K H a (vi t.sch) ∧ SqT K H b (ss.map V.int) ∧ ss.length = t.size ∧ t.size ≤ 60 ∧ Lds ss ∧ ∀ H', Same H H' → Q (.int (dot ss t.wr)) H'
theorem ok_write_work (TX : Tx K mg) : FnOk P w K mg base CX0 7 TX.a_write_work TX.fd_write_work ["schedule", "sizes"] (sp_write_work K) := by
  refine TX.f_write_work.ok sc_write_work (fun vs H Q E h => ?_) (fun cdv A outer s H vs Q E hr h => ?_)
  · obtain ⟨a, b, t, ss, rfl, _⟩ := h; rfl
  · obtain ⟨a, b, t, ss, rfl, hA, hB, he, hz, hL, q⟩ := h
    refine ⟨_, (pss_cons (ps_set (i := 2) sc_write_work.nd rfl (.inl rfl) (pe_call (ok_writes TX) (hr.mono (by decide)) (by rfl) TX.g_writes TX.f_writes.kp TX.bd_writes .nil pass0 (pa_cons (pv 0) pa_nil)))
      (pss_cons (ps_expr (pe_call (ok_check_sizes TX) (hr.mono (by decide)) (by rfl) TX.g_check_sizes TX.f_check_sizes.kp TX.bd_check_sizes .nil pass0 (pa_cons (pv 1) (pa_cons (pe_callB (id := "len") (k_len (K := K) rfl) (by rfl) TX.b_len (by decide +kernel) (pa_cons (pv 2) pa_nil)) (pa_cons (pe_callB (id := "len") (k_len (K := K) rfl) (by rfl) TX.b_len (by decide +kernel) (pa_cons (pv 2) pa_nil)) pa_nil)))))
      (pss_one (ps_ret (pe_call (ok_weighted TX) (hr.mono (by decide)) (by rfl) TX.g_weighted TX.f_weighted.kp TX.bd_weighted .nil pass0 (pa_cons (pv 1) (pa_cons (pv 2) pa_nil))))))), ?_⟩
    refine ⟨.ref a, rfl, a, t, rfl, hA, hz, fun H1 p1 s1 h1 => ?_⟩
    have hwl : ((vi t.wr).length : Int) = (ss.length : Int) := by rw [vi_len, T.wr_len, he]
    refine ⟨.ref b, rfl, .ref p1, rfl, p1, _, rfl, .inr h1, .ref p1, rfl, p1, _, rfl, .inr h1, b, ss, _, _, rfl, Same.tup s1 hB, hL, by omega, by omega, by omega, fun H2 s2 => ?_⟩
    exact ⟨.ref b, rfl, .ref p1, rfl, b, p1, ss, t.wr, rfl, Same.tup (s1.trans s2) hB, Same.tup s2 h1, by rw [T.wr_len, he], by omega, hL, fun n hn => by have := wr_le t n hn; omega, fun H3 s3 => q _ ((s1.trans s2).trans s3)⟩
def sp_read_work (K : PySem.W.Frag) : Sp := fun vs H Q _ => ∃ (a b : Addr) (t : T) (rs : List Int), vs = [.ref a, .ref b] ∧ SqT K H a (vi t.sch) ∧ SqT K H b (rs.map V.int) ∧ rs.length = t.size ∧ t.size ≤ 60 ∧ Lds rs ∧ ∀ H', Same H H' → Q (.int (dot rs t.rc)) H'
theorem ok_read_work (TX : Tx K mg) : FnOk P w K mg base CX0 7 TX.a_read_work TX.fd_read_work ["schedule", "reads"] (sp_read_work K) := by
  refine TX.f_read_work.ok sc_read_work (fun vs H Q E h => ?_) (fun cdv A outer s H vs Q E hr h => ?_)
  · obtain ⟨a, b, t, rs, rfl, _⟩ := h; rfl
  · obtain ⟨a, b, t, rs, rfl, hA, hB, he, hz, hL, q⟩ := h
    refine ⟨_, (pss_cons (ps_set (i := 2) sc_read_work.nd rfl (.inl rfl) (pe_call (ok_run_counts TX) (hr.mono (by decide)) (by rfl) TX.g_run_counts TX.f_run_counts.kp TX.bd_run_counts .nil pass0 (pa_cons (pv 0) pa_nil)))
      (pss_cons (ps_expr (pe_call (ok_check_reads TX) (hr.mono (by decide)) (by rfl) TX.g_check_reads TX.f_check_reads.kp TX.bd_check_reads .nil pass0 (pa_cons (pv 1) (pa_cons (pe_callB (id := "len") (k_len (K := K) rfl) (by rfl) TX.b_len (by decide +kernel) (pa_cons (pv 2) pa_nil)) pa_nil))))
      (pss_one (ps_ret (pe_call (ok_weighted TX) (hr.mono (by decide)) (by rfl) TX.g_weighted TX.f_weighted.kp TX.bd_weighted .nil pass0 (pa_cons (pv 1) (pa_cons (pv 2) pa_nil))))))), ?_⟩
    refine ⟨.ref a, rfl, a, t, rfl, hA, hz, fun H1 p1 s1 h1 => ?_⟩
    have hwl : ((vi t.rc).length : Int) = (rs.length : Int) := by rw [vi_len, T.rc_len, he]
    refine ⟨.ref b, rfl, .ref p1, rfl, p1, _, rfl, .inr h1, b, rs, by rw [hwl]; rfl, Same.tup s1 hB, hL, by omega, fun H2 s2 => ?_⟩
    exact ⟨.ref b, rfl, .ref p1, rfl, b, p1, rs, t.rc, rfl, Same.tup (s1.trans s2) hB, Same.tup s2 h1, by rw [T.rc_len, he], by omega, hL, fun n hn => by have := rc_le t n hn; omega, fun H3 s3 => q _ ((s1.trans s2).trans s3)⟩
end
theorem u65 {k : Nat} {A : Around} (r : Room k A) : A.units + 65 < cLine := by have := r.un; omega
theorem dot_app {a b : List Int} {m n : List Nat} (h : a.length = m.length) : dot (a ++ b) (m ++ n) = dot a m + dot b n := by
  unfold dot
  rw [List.zipWith_append h, List.sum_append]
theorem dot_cons (x : Int) (xs : List Int) (n : Nat) (ns : List Nat) : dot (x :: xs) (n :: ns) = x * (n : Int) + dot xs ns := by simp [dot]
theorem dot_inc : ∀ (xs : List Int) (ns : List Nat), xs.length = ns.length → dot xs (ns.map (· + 1)) = dot xs ns + xs.sum
  | [], [], _ => by simp [dot]
  | x :: xs, n :: ns, h => by
    have ih := dot_inc xs ns (by simpa using h)
    rw [List.map_cons, dot_cons, dot_cons, ih, List.sum_cons, Int.natCast_add, Int.mul_add]
    simp
    omega
theorem seg_sum (L : List Int) (i a : Nat) : ((L.drop i).take a).sum = sm L (i + a) - sm L i := by
  unfold sm
  rw [List.take_add, List.sum_append]
  omega
theorem take_split {L : List Int} {i a b : Nat} (h : i + a < L.length) : (L.drop i).take (a + 1 + b) = (L.drop i).take a ++ L[i + a] :: (L.drop (i + a + 1)).take b := by
  rw [show a + 1 + b = a + (1 + b) by omega, List.take_add, List.drop_drop, List.drop_eq_getElem_cons h, show 1 + b = b + 1 by omega, List.take_succ_cons]
/-- the work of a tree over its own part of the loads -/
def wkI (ss rs : List Int) (i : Nat) (t : T) : Int := dot ((ss.drop i).take t.size) t.wr + dot ((rs.drop i).take t.size) t.rc
theorem wk_node {ss rs : List Int} {i : Nat} {l r : T} (h : i + (l.size + 1 + r.size) ≤ ss.length) (h2 : i + (l.size + 1 + r.size) ≤ rs.length) : wkI ss rs i (.node l r) = wkI ss rs i l + wkI ss rs (i + l.size + 1) r + cst (sm ss) (sm rs) i (l.size + r.size + 1) l.size := by
  have e1 : (T.node l r).size = l.size + 1 + r.size := rfl
  have e2 : (T.node l r).wr = l.wr.map (· + 1) ++ 1 :: r.wr := rfl
  have e3 : (T.node l r).rc = l.rc ++ 1 :: r.rc.map (· + 1) := rfl
  have a1 : ((ss.drop i).take l.size).length = l.size := by rw [List.length_take, List.length_drop]; omega
  have a2 : ((rs.drop i).take l.size).length = l.size := by rw [List.length_take, List.length_drop]; omega
  have a3 : ((rs.drop (i + l.size + 1)).take r.size).length = r.size := by rw [List.length_take, List.length_drop]; omega
  have g1 : ss[i + l.size]? = some (ss[i + l.size]'(by omega)) := List.getElem?_eq_getElem (by omega)
  have g2 : rs[i + l.size]? = some (rs[i + l.size]'(by omega)) := List.getElem?_eq_getElem (by omega)
  have x1 := seg_sum ss i l.size
  have x2 := sm_succ g1
  have x3 := seg_sum rs (i + l.size + 1) r.size
  have x4 := sm_succ g2
  unfold wkI cst
  rw [e1, e2, e3, take_split (L := ss) (by omega), take_split (L := rs) (by omega), dot_app (by rw [a1, List.length_map, T.wr_len]), dot_app (by rw [a2, T.rc_len]), dot_cons, dot_cons, dot_inc _ _ (by rw [a1, T.wr_len]), dot_inc _ _ (by rw [a3, T.rc_len])]
  rw [show i + l.size + 1 + r.size = i + (l.size + r.size + 1) by omega] at x3
  simp only [Int.natCast_one, Int.mul_one]
  omega
theorem wk_via {ss rs : List Int} : ∀ (t : T) (i : Nat), i + t.size ≤ ss.length → i + t.size ≤ rs.length → lw (sm ss) (sm rs) i t.size ≤ wkI ss rs i t
  | .nil, i, _, _ => by
    show lw _ _ i 0 ≤ _
    rw [lw_zero]
    simp [wkI, T.size, T.wr, T.rc, dot]
  | .node l r, i, h, h2 => by
    simp only [T.size] at h h2
    have h3 := wk_via (ss := ss) (rs := rs) l i (by omega) (by omega)
    have h4 := wk_via (ss := ss) (rs := rs) r (i + l.size + 1) (by omega) (by omega)
    have h5 := lw_le (sm ss) (sm rs) i (show l.size ≤ l.size + r.size by omega)
    have e : (T.node l r).size = l.size + r.size + 1 := by simp only [T.size]; omega
    rw [e, wk_node h h2]
    unfold via at h5
    rw [show l.size + r.size - l.size = r.size by omega] at h5
    omega
theorem wk_root {ss rs : List Int} {l r : T} {i m : Nat} (hm : l.size + r.size = m) (h : i + (m + 1) ≤ ss.length) (h2 : i + (m + 1) ≤ rs.length) : via (sm ss) (sm rs) i m l.size ≤ wkI ss rs i (.node l r) := by
  have h3 := wk_via (ss := ss) (rs := rs) l i (by omega) (by omega)
  have h4 := wk_via (ss := ss) (rs := rs) r (i + l.size + 1) (by omega) (by omega)
  rw [wk_node (by omega) (by omega), hm]
  unfold via
  rw [show m - l.size = r.size by omega]
  omega
theorem wk_lt {ss rs : List Int} : ∀ m i, i + m ≤ ss.length → i + m ≤ rs.length → wkI ss rs i (lt (sm ss) (sm rs) i m) = lw (sm ss) (sm rs) i m := by
  intro m
  induction m using Nat.strongRecOn with
  | ind m ih =>
    intro i h h2
    cases m with
    | zero =>
      rw [lt_zero, lw_zero]
      simp [wkI, T.size, T.wr, T.rc, dot]
    | succ m =>
      have hr := rt_le (sm ss) (sm rs) i m
      have sl := lt_size (sm ss) (sm rs) (rt (sm ss) (sm rs) i m) i
      have sr := lt_size (sm ss) (sm rs) (m - rt (sm ss) (sm rs) i m) (i + rt (sm ss) (sm rs) i m + 1)
      rw [lt_succ, wk_node (by omega) (by omega), sl, sr, ih _ (by omega) i (by omega) (by omega), ih _ (by omega) _ (by omega) (by omega), lw_succ]
      unfold via
      rw [show rt (sm ss) (sm rs) i m + (m - rt (sm ss) (sm rs) i m) + 1 = m + 1 by omega]
def rootOf : T → Nat
  | .nil => 0
  | .node l _ => l.size
theorem root_push : ∀ (t : T) (m : Nat), m ≤ t.runs → rootOf (t.push m) = if m = t.runs then t.size else rootOf t :=
  T.push_ind (fun t => by rw [T.push_eq, if_pos rfl]; rfl) (fun l r m h ih => by
    rw [T.push_node h, if_neg]
    · rfl
    · simp only [T.runs]; omega)
def wkF (ss rs : List Int) (t : T) : Int := dot ss t.wr + dot rs t.rc
theorem wkF_I {ss rs : List Int} {t : T} (h : ss.length = t.size) (h2 : rs.length = t.size) : wkI ss rs 0 t = wkF ss rs t := by
  unfold wkI wkF
  rw [List.drop_zero, List.drop_zero, List.take_of_length_le (by omega), List.take_of_length_le (by omega)]
/-- the least pair of work and root over all trees -/
theorem min_all {ss rs : List Int} {n : Nat} (h : ss.length = n + 1) (h2 : rs.length = n + 1) {ts : List T} (h3 : ∀ t, t ∈ ts → t.size = n + 1) (h4 : lt (sm ss) (sm rs) 0 (n + 1) ∈ ts) :
    ∀ {p : T} {ps : List T}, ts = p :: ps → PySem.W.minOf (wkF ss rs p, ((rootOf p : Nat) : Int)) (ps.map fun t => (wkF ss rs t, ((rootOf t : Nat) : Int))) = (lw (sm ss) (sm rs) 0 (n + 1), ((rt (sm ss) (sm rs) 0 n : Nat) : Int)) := by
  intro p ps he
  have key : ∀ t, t ∈ ts → lw (sm ss) (sm rs) 0 (n + 1) ≤ wkF ss rs t ∧ (wkF ss rs t = lw (sm ss) (sm rs) 0 (n + 1) → rt (sm ss) (sm rs) 0 n ≤ rootOf t) := fun t ht => by
    have hs := h3 t ht
    cases t with
    | nil => cases hs
    | node l r =>
      simp only [T.size] at hs
      have a1 := wk_root (ss := ss) (rs := rs) (l := l) (r := r) (i := 0) (m := n) (by omega) (by omega) (by omega)
      rw [wkF_I (by simp only [T.size]; omega) (by simp only [T.size]; omega)] at a1
      have a2 := lw_le (sm ss) (sm rs) 0 (show l.size ≤ n by omega)
      refine ⟨by omega, fun e => ?_⟩
      by_cases c : rt (sm ss) (sm rs) 0 n ≤ l.size
      · exact c
      · have a3 := amin_first (via (sm ss) (sm rs) 0 n) n l.size (by show l.size < rt _ _ 0 n; omega)
        have a4 := lw_succ (sm ss) (sm rs) 0 n
        have a5 : via (sm ss) (sm rs) 0 n (amin (via (sm ss) (sm rs) 0 n) n) = via (sm ss) (sm rs) 0 n (rt (sm ss) (sm rs) 0 n) := rfl
        omega
  have hw := wk_lt (ss := ss) (rs := rs) (n + 1) 0 (by omega) (by omega)
  rw [wkF_I (by rw [lt_size, h]) (by rw [lt_size, h2])] at hw
  have hro : rootOf (lt (sm ss) (sm rs) 0 (n + 1)) = rt (sm ss) (sm rs) 0 n := by
    rw [lt_succ]
    exact lt_size _ _ _ _
  -- a foldl that keeps the least
  have fold : ∀ (l : List T) (a : T), a ∈ ts → (∀ t, t ∈ l → t ∈ ts) → ∃ b, b ∈ ts ∧ (l.map fun t => (wkF ss rs t, ((rootOf t : Nat) : Int))).foldl (fun x y => if PySem.W.DatumOrd.lt y x = true then y else x) (wkF ss rs a, ((rootOf a : Nat) : Int)) = (wkF ss rs b, ((rootOf b : Nat) : Int)) ∧ ∀ t, t ∈ a :: l → wkF ss rs b < wkF ss rs t ∨ (wkF ss rs b = wkF ss rs t ∧ rootOf b ≤ rootOf t) := by
    intro l
    induction l with
    | nil => intro a ha _; exact ⟨a, ha, rfl, fun t ht => by rw [List.mem_singleton.mp ht]; exact .inr ⟨rfl, Nat.le_refl _⟩⟩
    | cons c l ih =>
      intro a ha hl
      have hc := hl c (List.mem_cons_self ..)
      rw [List.map_cons, List.foldl_cons]
      have lt_iff : PySem.W.DatumOrd.lt (wkF ss rs c, ((rootOf c : Nat) : Int)) (wkF ss rs a, ((rootOf a : Nat) : Int)) = (if wkF ss rs c = wkF ss rs a then decide (((rootOf c : Nat) : Int) < ((rootOf a : Nat) : Int)) else decide (wkF ss rs c < wkF ss rs a)) := rfl
      by_cases hlt : PySem.W.DatumOrd.lt (wkF ss rs c, ((rootOf c : Nat) : Int)) (wkF ss rs a, ((rootOf a : Nat) : Int)) = true
      · obtain ⟨b, b1, b2, b3⟩ := ih c hc fun t ht => hl t (List.mem_cons_of_mem _ ht)
        rw [if_pos hlt]
        refine ⟨b, b1, b2, fun t ht => ?_⟩
        rcases List.mem_cons.mp ht with rfl | ht
        · have hbc := b3 c (List.mem_cons_self ..)
          rw [lt_iff] at hlt
          by_cases e : wkF ss rs c = wkF ss rs t
          · rw [if_pos e] at hlt
            have := of_decide_eq_true hlt
            omega
          · rw [if_neg e] at hlt
            have := of_decide_eq_true hlt
            omega
        · exact b3 t ht
      · obtain ⟨b, b1, b2, b3⟩ := ih a ha fun t ht => hl t (List.mem_cons_of_mem _ ht)
        rw [if_neg hlt]
        refine ⟨b, b1, b2, fun t ht => ?_⟩
        rcases List.mem_cons.mp ht with rfl | ht
        · exact b3 t (List.mem_cons_self ..)
        · rcases List.mem_cons.mp ht with rfl | ht
          · have hba := b3 a (List.mem_cons_self ..)
            rw [lt_iff] at hlt
            by_cases e : wkF ss rs t = wkF ss rs a
            · rw [if_pos e] at hlt
              have : ¬ ((rootOf t : Nat) : Int) < ((rootOf a : Nat) : Int) := by simpa using hlt
              omega
            · rw [if_neg e] at hlt
              have : ¬ wkF ss rs t < wkF ss rs a := by simpa using hlt
              omega
          · exact b3 t (List.mem_cons_of_mem _ ht)
  obtain ⟨b, b1, b2, b3⟩ := fold ps p (by rw [he]; exact List.mem_cons_self ..) fun t ht => by rw [he]; exact List.mem_cons_of_mem _ ht
  unfold PySem.W.minOf
  rw [b2]
  have k1 := b3 _ (by rw [← he]; exact h4)
  rw [hw, hro] at k1
  obtain ⟨k2, k3⟩ := key b b1
  have e1 : wkF ss rs b = lw (sm ss) (sm rs) 0 (n + 1) := by omega
  have e2 := k3 e1
  rw [e1]
  congr 2
  omega
/-- the sums of the first ones, as values -/
def sms (ns : List Int) : List V := (List.range (ns.length + 1)).map fun k => V.int (sm ns k)
theorem sms_len (ns : List Int) : (sms ns).length = ns.length + 1 := by simp [sms]
theorem sms_at {ns : List Int} {k : Nat} (h : k ≤ ns.length) : (sms ns)[k]? = some (.int (sm ns k)) := by
  unfold sms
  rw [List.getElem?_map, List.getElem?_range (by omega)]; rfl
def Sms (K : PySem.W.Frag) (H : Hp) (v : V) (ss rs : List Int) : Prop := ∃ a b c, v = .ref a ∧ SqT K H a [.ref b, .ref c] ∧ SqL K H b (sms ss) ∧ SqL K H c (sms rs)
theorem Sms.same {K : PySem.W.Frag} {H H' : Hp} {v : V} {ss rs : List Int} (h : Sms K H v ss rs) (e : Same H H') : Sms K H' v ss rs := by
  obtain ⟨a, b, c, h1, h2, h3, h4⟩ := h
  exact ⟨a, b, c, h1, Same.tup e h2, e.seq h3, e.seq h4⟩
theorem SqQ.same {K : PySem.W.Frag} {H H' : Hp} {a : Addr} {xs : List V} (h : SqQ K H a xs) (e : Same H H') : SqQ K H' a xs := by
  rcases h with h | h
  · exact .inl (e.seq h)
  · exact .inr (Same.tup e h)
/-- v[i][k] is x -/
def Rd (K : PySem.W.Frag) (H : Hp) (v : V) (i k : Nat) (x : Int) : Prop := ∃ a xs b ys, v = .ref a ∧ SqQ K H a xs ∧ xs[i]? = some (.ref b) ∧ SqQ K H b ys ∧ ys[k]? = some (.int x)
theorem Rd.same {K : PySem.W.Frag} {H H' : Hp} {v : V} {i k : Nat} {x : Int} (h : Rd K H v i k x) (e : Same H H') : Rd K H' v i k x := by
  obtain ⟨a, xs, b, ys, h1, h2, h3, h4, h5⟩ := h
  exact ⟨a, xs, b, ys, h1, h2.same e, h3, h4.same e, h5⟩
def wbr (S R : Nat → Int) (i m : Nat) : List (Int × Int) := (List.range m).map fun k => (lw S R i k + lw S R (i + k + 1) (m - 1 - k) + cst S R i m k, ((i + k : Nat) : Int))
theorem wbr_via (S R : Nat → Int) (i m : Nat) : wbr S R i (m + 1) = (via S R i m 0, ((i : Nat) : Int)) :: (List.range m).map fun j => (via S R i m (j + 1), ((i + (j + 1) : Nat) : Int)) := by
  unfold wbr
  rw [List.range_succ_eq_map, List.map_cons, List.map_map]
  rfl
theorem wbr_min (S R : Nat → Int) (i m : Nat) : PySem.W.minOf (via S R i m 0, ((i : Nat) : Int)) ((List.range m).map fun j => (via S R i m (j + 1), ((i + (j + 1) : Nat) : Int))) = (lw S R i (m + 1), ((i + rt S R i m : Nat) : Int)) := by
  rw [minOf_amin, lw_succ]; rfl
section
variable {P : Program} {w : World} {K : PySem.W.Frag} {mg : Str → Option Value} {base : Heap}
def sp_running_sums (K : PySem.W.Frag) : Sp := fun vs H Q _ => ∃ (a : Addr) (ns : List Int), vs = [.ref a] ∧ SqT K H a (ns.map V.int) ∧ ns.length ≤ 1000 ∧ ∀ H' p, Same H H' → H p = none → H' p = some (.lst (sms ns)) → Q (.ref p) H'
theorem ok_running_sums (TX : Tx K mg) : FnOk P w K mg base CX0 1 TX.a_running_sums TX.fd_running_sums ["loads"] (sp_running_sums K) := by
  refine TX.f_running_sums.ok sc_running_sums (fun vs H Q E h => ?_) (fun cdv A outer s H vs Q E hr h => ?_)
  · obtain ⟨a, ns, rfl, _⟩ := h; rfl
  · obtain ⟨a, ns, rfl, hS, h3, q⟩ := h
    refine ⟨_, (pss_cons (ps_set (i := 1) sc_running_sums.nd rfl (.inl rfl) (pe_lst (pa_cons pe_int pa_nil)))
      (pss_cons (ps_for PassesOwn.never rfl (k_piT (K := K) rfl (pv 0)) (pg_name (i := 2) sc_running_sums.nd rfl (.inl rfl))
        (pss_one (ps_expr (pe_bm PySem.F.plainAttrs_list PySem.F.slot_list_append PySem.F.type_list_append mt_append (pv 1) (pa_cons (pe_op op_add (pe_ix (k_ixL (K := K) rfl) (pv 1) (pe_un un_neg pe_int) (fun _ _ => rfl)) (pv 2)) pa_nil)))))
      (pss_one (ps_ret (pv 1))))), ?_⟩
    refine ⟨sz60 (by simp), fun l nl => ?_⟩
    have s1 := same_upd (o := .lst [V.int 0]) nl
    refine ⟨.ref a, rfl, a, rfl, ⟨_, Same.tup s1 hS⟩, for_tup (K := K) (xs := ns.map V.int) (fun i σ H' => ∃ y2, σ = [some (.ref a), some (.ref l), y2] ∧ Same H H' ∧ H' l = some (.lst ((List.range (i + 1)).map fun k => V.int (sm ns k)))) ⟨none, rfl, s1, by rw [upd_same]; simp [sm_zero]⟩ (fun i σ H' _ ⟨_, _, h, _⟩ => Same.tup h hS) ?_ ?_⟩
    · rintro i x σ H2 hx ⟨y2, rfl, s2, h2⟩
      rw [List.getElem?_map, Option.map_eq_some_iff] at hx
      obtain ⟨z, hz, rfl⟩ := hx
      have hi : i < ns.length := (List.getElem?_eq_some_iff.mp hz).1
      have e1 : ((List.range (i + 1)).map fun k => V.int (sm ns k)) = ((List.range i).map fun k => V.int (sm ns k)) ++ [V.int (sm ns i)] := by rw [List.range_succ, List.map_append]; rfl
      refine ⟨.ref l, rfl, .inl ⟨rfl, _, .inl (.inl h2)⟩, .ref l, rfl, _, rfl, l, _, -1, _, rfl, rfl, .inl (.inl h2), (by rw [e1]; exact atI_last _ _), _, rfl, _, _, rfl, rfl, l, _, _, rfl, rfl, h2, sz61 (by simp; omega), ?_⟩
      refine ⟨_, rfl, Same.mut s2 nl, ?_⟩
      rw [upd_same, List.range_succ (n := i + 1), List.map_append]
      show _ = some (HO.lst (_ ++ [V.int (sm ns (i + 1))]))
      rw [sm_succ hz]
    · rintro σ H2 ⟨y2, rfl, s2, h2⟩
      rw [List.length_map] at h2
      exact ⟨_, rfl, q _ l s2 nl h2⟩
def sp_load_sums (K : PySem.W.Frag) : Sp := fun vs H Q _ => ∃ (a b : Addr) (ss rs : List Int), vs = [.ref a, .ref b] ∧ SqT K H a (ss.map V.int) ∧ SqT K H b (rs.map V.int) ∧ ss.length ≤ 1000 ∧ rs.length ≤ 1000 ∧ ∀ H' p, Same H H' → Sms K H' (.ref p) ss rs → Q (.ref p) H'
theorem ok_load_sums (TX : Tx K mg) : FnOk P w K mg base CX0 2 TX.a_load_sums TX.fd_load_sums ["sizes", "reads"] (sp_load_sums K) := by
  refine TX.f_load_sums.ok sc_load_sums (fun vs H Q E h => ?_) (fun cdv A outer s H vs Q E hr h => ?_)
  · obtain ⟨a, b, ss, rs, rfl, _⟩ := h; rfl
  · obtain ⟨a, b, ss, rs, rfl, hA, hB, h1, h2, q⟩ := h
    refine ⟨_, (pss_one (ps_ret (pe_tup (pa_cons (pe_call (ok_running_sums TX) (hr.mono (by decide)) (by rfl) TX.g_running_sums TX.f_running_sums.kp TX.bd_running_sums .nil pass0 (pa_cons (pv 0) pa_nil)) (pa_cons (pe_call (ok_running_sums TX) (hr.mono (by decide)) (by rfl) TX.g_running_sums TX.f_running_sums.kp TX.bd_running_sums .nil pass0 (pa_cons (pv 1) pa_nil)) pa_nil))))), ?_⟩
    refine ⟨.ref a, rfl, a, ss, rfl, hA, h1, fun H1 p1 s1 n1 hp1 => ⟨.ref b, rfl, b, rs, rfl, Same.tup s1 hB, h2, fun H2 p2 s2 n2 hp2 => ⟨sz60 (by simp), fun p np => ?_⟩⟩⟩
    have s3 := same_upd (o := .tup [V.ref p1, V.ref p2]) np
    exact q _ p ((s1.trans s2).trans s3) ⟨p, p1, p2, rfl, .inl (.inl upd_same), .inl (.inl (s3 _ _ (s2 _ _ hp1))), .inl (.inl (s3 _ _ hp2))⟩
def sp_root_cost (K : PySem.W.Frag) : Sp := fun vs H Q _ => ∃ (v : V) (ss rs : List Int) (i m k : Nat), vs = [v, .int (i : Int), .int ((i + m : Nat) : Int), .int ((i + k : Nat) : Int)] ∧ Sms K H v ss rs ∧ i + m ≤ ss.length ∧ i + m ≤ rs.length ∧ k < m ∧ Q (.int (cst (sm ss) (sm rs) i m k)) H
theorem ok_root_cost (TX : Tx K mg) : FnOk P w K mg base CX0 1 TX.a_root_cost TX.fd_root_cost ["sums", "start", "stop", "root"] (sp_root_cost K) := by
  refine TX.f_root_cost.ok sc_root_cost (fun vs H Q E h => ?_) (fun cdv A outer s H vs Q E hr h => ?_)
  · obtain ⟨v, ss, rs, i, m, k, rfl, _⟩ := h; rfl
  · obtain ⟨v, ss, rs, i, m, k, rfl, ⟨a, b, c, rfl, hA, hB, hC⟩, h1, h2, h3, q⟩ := h
    refine ⟨_, (pss_cons (ps_asg (pv 0) (pg_tup rfl (pgs_cons (pg_name (i := 4) sc_root_cost.nd rfl (.inl rfl)) (pgs_cons (pg_name (i := 5) sc_root_cost.nd rfl (.inl rfl)) pgs_nil))))
      (pss_one (ps_ret (pe_op op_sub (pe_op op_add (pe_op op_sub (pe_ix (k_ixL (K := K) rfl) (pv 4) (pe_op op_add (pv 3) pe_int) (fun _ _ => rfl)) (pe_ix (k_ixL (K := K) rfl) (pv 4) (pv 1) (fun _ _ => rfl))) (pe_ix (k_ixL (K := K) rfl) (pv 5) (pv 2) (fun _ _ => rfl))) (pe_ix (k_ixL (K := K) rfl) (pv 5) (pv 3) (fun _ _ => rfl)))))), ?_⟩
    have e1 : ((i + k : Nat) : Int) + 1 = ((i + k + 1 : Nat) : Int) := by omega
    refine ⟨.ref a, rfl, a, _, rfl, hA, rfl, _, _, rfl, _, [], rfl, rfl, ?_⟩
    refine ⟨.ref b, rfl, _, rfl, _, _, rfl, rfl, b, _, _, _, rfl, rfl, hB, (by rw [e1]; exact atI_nat (sms_at (by omega))), .ref b, rfl, _, rfl, b, _, _, _, rfl, rfl, hB, atI_nat (sms_at (by omega)), _, _, rfl, rfl, ?_⟩
    refine ⟨.ref c, rfl, _, rfl, c, _, _, _, rfl, rfl, hC, atI_nat (sms_at (by omega)), _, _, rfl, rfl, .ref c, rfl, _, rfl, c, _, _, _, rfl, rfl, hC, atI_nat (sms_at (by omega)), _, _, rfl, rfl, q⟩
end
section
variable {P : Program} {w : World} {K : PySem.W.Frag} {mg : Str → Option Value} {base : Heap}
theorem tf_dP (p : Int × Int) : Tf (dP p) := .tup fun d h => by
  rcases List.mem_cons.mp h with rfl | h
  · exact .int _
  · rcases List.mem_cons.mp h with rfl | h
    · exact .int _
    · cases h
theorem dp_dP {K : PySem.W.Frag} {H : Hp} {a : Addr} {x y : Int} (h : SqT K H a [V.int x, V.int y]) : Dp K H (.ref a) (dP (x, y)) := .tup h (dp_ints [x, y])
/-- what the roots of the m flushes from i on ask of two tables -/
def Rds (K : PySem.W.Frag) (H : Hp) (v u : V) (S R : Nat → Int) (i m : Nat) : Prop := (∀ k, k < m → Rd K H v i k (lw S R i k)) ∧ ∀ k, k < m → Rd K H u (i + k + 1) (m - 1 - k) (lw S R (i + k + 1) (m - 1 - k))
theorem Rds.same {K : PySem.W.Frag} {H H' : Hp} {v u : V} {S R : Nat → Int} {i m : Nat} (h : Rds K H v u S R i m) (e : Same H H') : Rds K H' v u S R i m :=
  ⟨fun k hk => (h.1 k hk).same e, fun k hk => (h.2 k hk).same e⟩
def sp_works_by_root (K : PySem.W.Frag) : Sp := fun vs H Q _ => ∃ (v u z : V) (ss rs : List Int) (i m : Nat), vs = [v, u, z, .int (i : Int), .int ((i + m : Nat) : Int)] ∧ Sms K H z ss rs ∧ i + m ≤ ss.length ∧ i + m ≤ rs.length ∧ ss.length ≤ 1000 ∧ Rds K H v u (sm ss) (sm rs) i m ∧
  ∀ H' p us, Same H H' → H p = none → H' p = some (.lst us) → DpAll K H' us ((wbr (sm ss) (sm rs) i m).map dP) → Q (.ref p) H'
theorem ok_works_by_root (TX : Tx K mg) : FnOk P w K mg base CX0 2 TX.a_works_by_root TX.fd_works_by_root ["lefts", "rights", "sums", "start", "stop"] (sp_works_by_root K) := by
  refine TX.f_works_by_root.ok sc_works_by_root (fun vs H Q E h => ?_) (fun cdv A outer s H vs Q E hr h => ?_)
  · obtain ⟨v, u, z, ss, rs, i, m, rfl, _⟩ := h; rfl
  · obtain ⟨v, u, z, ss, rs, i, m, rfl, hZ, h1, h2, h3, hR, q⟩ := h
    refine ⟨_, (pss_cons (ps_set (i := 5) sc_works_by_root.nd rfl (.inl rfl) (pe_lst pa_nil))
      (pss_cons (ps_for PassesOwn.never rfl (pi_range2 (by rfl) TX.b_range (pa_cons (pv 3) (pa_cons (pv 4) pa_nil))) (pg_name (i := 6) sc_works_by_root.nd rfl (.inl rfl))
        (pss_cons (ps_set (i := 7) sc_works_by_root.nd rfl (.inl rfl) (pe_ix (k_ixQ (K := K) rfl) (pe_ix (k_ixQ (K := K) rfl) (pv 0) (pv 3) (fun _ _ => rfl)) (pe_op op_sub (pv 6) (pv 3)) (fun _ _ => rfl)))
        (pss_cons (ps_set (i := 8) sc_works_by_root.nd rfl (.inl rfl) (pe_ix (k_ixQ (K := K) rfl) (pe_ix (k_ixQ (K := K) rfl) (pv 1) (pe_op op_add (pv 6) pe_int) (fun _ _ => rfl)) (pe_op op_sub (pe_op op_sub (pv 4) (pv 6)) pe_int) (fun _ _ => rfl)))
        (pss_one (ps_if (PW.pt (pw_and (pt_cmpR op_notN (pv 7) pe_non (nomark _)) (pw_and1 (pt_cmpR op_notN (pv 8) pe_non (nomark _)))))
          (pss_one (ps_expr (pe_bm PySem.F.plainAttrs_list PySem.F.slot_list_append PySem.F.type_list_append mt_append (pv 5) (pa_cons (pe_tup (pa_cons (pe_op op_add (pe_op op_add (pv 7) (pv 8)) (pe_call (ok_root_cost TX) (hr.mono (by decide)) (by rfl) TX.g_root_cost TX.f_root_cost.kp TX.bd_root_cost .nil pass0 (pa_cons (pv 2) (pa_cons (pv 3) (pa_cons (pv 4) (pa_cons (pv 6) pa_nil)))))) (pa_cons (pv 6) pa_nil))) pa_nil))))
          pss_nil)))))
      (pss_one (ps_ret (pv 5))))), ?_⟩
    refine ⟨sz60 (by simp), fun l nl => ?_⟩
    have s1 := same_upd (o := .lst []) nl
    have en : ((((i + m : Nat) : Int)) - ((i : Nat) : Int)).toNat = m := by omega
    refine ⟨_, rfl, _, rfl, _, _, rfl, ⟨by omega, by omega, by omega, by omega⟩, ?_⟩
    refine for_range (lo := ((i : Nat) : Int)) (fun j σ H' => ∃ y6 y7 y8 us, σ = [some v, some u, some z, some (.int (i : Int)), some (.int ((i + m : Nat) : Int)), some (.ref l), y6, y7, y8] ∧ Same H H' ∧ H' l = some (.lst us) ∧ DpAll K H' us (((wbr (sm ss) (sm rs) i m).take j).map dP)) ⟨none, none, none, [], rfl, s1, upd_same, .nil⟩ ?_ ?_
    · rintro j σ H2 hj ⟨y6, y7, y8, us, rfl, s2, hl, hA⟩
      rw [en] at hj
      obtain ⟨a, xs, b, ys, rfl, g1, g2, g3, g4⟩ := (hR.1 j hj).same s2
      obtain ⟨a', xs', b', ys', rfl, k1, k2, k3, k4⟩ := (hR.2 j hj).same s2
      have e1 : ((i : Nat) : Int) + ((j : Nat) : Int) = ((i + j : Nat) : Int) := by omega
      have e2 : ((i + j : Nat) : Int) - ((i : Nat) : Int) = ((j : Nat) : Int) := by omega
      have e3 : ((i + j : Nat) : Int) + 1 = ((i + j + 1 : Nat) : Int) := by omega
      have e4 : ((i + m : Nat) : Int) - ((i + j : Nat) : Int) - 1 = ((m - 1 - j : Nat) : Int) := by omega
      rw [e1]
      refine ⟨_, rfl, _, rfl, a, xs, _, _, rfl, rfl, g1, atI_nat g2, _, rfl, _, rfl, _, _, rfl, rfl, b, ys, _, _, rfl, rfl, g3, (by rw [e2]; exact atI_nat g4), ?_⟩
      refine ⟨_, rfl, _, rfl, _, _, rfl, rfl, a', xs', _, _, rfl, rfl, k1, (by rw [e3]; exact atI_nat k2), _, rfl, _, rfl, _, _, rfl, rfl, _, _, rfl, rfl, b', ys', _, _, rfl, rfl, k3, (by rw [e4]; exact atI_nat k4), ?_⟩
      refine ⟨_, rfl, rfl, _, rfl, iteB1 (by simp) ⟨_, rfl, rfl, _, rfl, iteB1 (by simp) ?_⟩⟩
      refine ⟨.ref l, rfl, .inl ⟨rfl, _, .inl (.inl hl)⟩, _, rfl, _, rfl, _, _, rfl, rfl, z, rfl, _, rfl, _, rfl, _, rfl, z, ss, rs, i, m, j, rfl, hZ.same s2, h1, h2, hj, _, _, rfl, rfl, _, rfl, sz60 (by simp), fun p np => ?_⟩
      have s3 := same_upd (o := .tup [V.int (lw (sm ss) (sm rs) i j + lw (sm ss) (sm rs) (i + j + 1) (m - 1 - j) + cst (sm ss) (sm rs) i m j), V.int ((i + j : Nat) : Int)]) np
      have hul := DpAll.len hA
      have hwl : (wbr (sm ss) (sm rs) i m).length = m := by simp [wbr]
      rw [List.length_map, List.length_take, hwl] at hul
      have hl3 := s3 _ _ hl
      refine ⟨l, us, _, rfl, rfl, hl3, sz61 (by omega), ?_⟩
      refine ⟨_, _, _, us ++ [V.ref p], rfl, Same.mut (s2.trans s3) nl, upd_same, ?_⟩
      have hg : (wbr (sm ss) (sm rs) i m)[j]? = some (lw (sm ss) (sm rs) i j + lw (sm ss) (sm rs) (i + j + 1) (m - 1 - j) + cst (sm ss) (sm rs) i m j, ((i + j : Nat) : Int)) := by
        unfold wbr
        rw [List.getElem?_map, List.getElem?_range hj]; rfl
      rw [List.take_add_one, hg, List.map_append]
      refine DpAll.keep (But.keep But.upd hl3) (fun d hd => ?_) (DpAll.append (DpAll.same s3 hA) (.cons ?_ .nil))
      · rcases List.mem_append.mp hd with hd | hd
        · obtain ⟨p, _, rfl⟩ := List.mem_map.mp hd
          exact tf_dP p
        · obtain ⟨p, _, rfl⟩ := List.mem_map.mp hd
          exact tf_dP p
      · exact dp_dP (.inl (.inl upd_same))
    · rintro σ H2 ⟨y6, y7, y8, us, rfl, s2, hl, hA⟩
      rw [en, List.take_of_length_le (by simp [wbr])] at hA
      exact ⟨_, rfl, q _ l us s2 nl hl hA⟩
def sp_least_root (K : PySem.W.Frag) : Sp := fun vs H Q _ => ∃ (v u z : V) (ss rs : List Int) (i m : Nat), vs = [v, u, z, .int (i : Int), .int ((i + (m + 1) : Nat) : Int)] ∧ Sms K H z ss rs ∧ i + (m + 1) ≤ ss.length ∧ i + (m + 1) ≤ rs.length ∧ ss.length ≤ 1000 ∧ Rds K H v u (sm ss) (sm rs) i (m + 1) ∧
  ∀ H', Same H H' → Q (.int ((i + rt (sm ss) (sm rs) i m : Nat) : Int)) H'
theorem ok_least_root (TX : Tx K mg) : FnOk P w K mg base CX0 3 TX.a_least_root TX.fd_least_root ["lefts", "rights", "sums", "start", "stop"] (sp_least_root K) := by
  refine TX.f_least_root.ok sc_least_root (fun vs H Q E h => ?_) (fun cdv A outer s H vs Q E hr h => ?_)
  · obtain ⟨v, u, z, ss, rs, i, m, rfl, _⟩ := h; rfl
  · obtain ⟨v, u, z, ss, rs, i, m, rfl, hZ, h1, h2, h3, hR, q⟩ := h
    refine ⟨_, (pss_one (ps_ret (pe_ix (k_ixT (K := K) rfl) (pe_callB (id := "min") (cr_minP (K := K) rfl rfl hr.units) (by rfl) TX.b_min (by decide +kernel) (pa_cons (pe_call (ok_works_by_root TX) (hr.mono (by decide)) (by rfl) TX.g_works_by_root TX.f_works_by_root.kp TX.bd_works_by_root .nil pass0 (pa_cons (pv 0) (pa_cons (pv 1) (pa_cons (pv 2) (pa_cons (pv 3) (pa_cons (pv 4) pa_nil)))))) pa_nil)) pe_int (fun _ _ => rfl)))), ?_⟩
    refine ⟨_, rfl, _, rfl, _, rfl, _, rfl, _, rfl, v, u, z, ss, rs, i, m + 1, rfl, hZ, h1, h2, h3, hR, fun H1 p us s1 n1 hp hA => ?_⟩
    rw [wbr_via] at hA
    refine ⟨p, us, _, _, rfl, .inl (.inl hp), hA, fun b hb => ?_⟩
    rw [wbr_min] at hb
    exact ⟨b, _, 1, _, rfl, rfl, hb, rfl, q _ s1⟩
end
/-- the first m works of the row of i -/
def rowc (S R : Nat → Int) (i m : Nat) : List Int := (List.range m).map fun j => lw S R i j
theorem rowc_len (S R : Nat → Int) (i m : Nat) : (rowc S R i m).length = m := by simp [rowc]
theorem rowc_at {S R : Nat → Int} {i m k : Nat} (h : k < m) : (rowc S R i m)[k]? = some (lw S R i k) := by
  unfold rowc
  rw [List.getElem?_map, List.getElem?_range h]; rfl
theorem rowc_succ (S R : Nat → Int) (i m : Nat) : rowc S R i (m + 1) = rowc S R i m ++ [lw S R i m] := by
  unfold rowc
  rw [List.range_succ, List.map_append]; rfl
/-- the rows of least works of n flushes -/
def dRow (S R : Nat → Int) (i m : Nat) : PyData := .tuple ((rowc S R i m).map PyData.int)
def dRows (S R : Nat → Int) (n : Nat) : List PyData := (List.range (n + 1)).map fun i => dRow S R i (n + 1 - i)
theorem dRows_len (S R : Nat → Int) (n : Nat) : (dRows S R n).length = n + 1 := by simp [dRows]
theorem dRows_at {S R : Nat → Int} {n i : Nat} (h : i ≤ n) : (dRows S R n)[i]? = some (dRow S R i (n + 1 - i)) := by
  unfold dRows
  rw [List.getElem?_map, List.getElem?_range (by omega)]; rfl
theorem tf_row (S R : Nat → Int) (i m : Nat) : Tf (dRow S R i m) := .tup (tf_ints _)
/-- the lists that become the rows: of row i, f i works are there -/
def RowsAt (H : Hp) (A : Addr) (as : List Addr) (S R : Nat → Int) (n : Nat) (f : Nat → Nat) : Prop :=
  H A = some (.lst (as.map V.ref)) ∧ as.length = n + 1 ∧ as.Nodup ∧ (∀ a, a ∈ as → a ≠ A) ∧ ∀ i a, as[i]? = some a → H a = some (.lst ((rowc S R i (f i)).map V.int))
theorem RowsAt.same {H H' : Hp} {A : Addr} {as : List Addr} {S R : Nat → Int} {n : Nat} {f : Nat → Nat} (h : RowsAt H A as S R n f) (e : Same H H') : RowsAt H' A as S R n f :=
  ⟨e _ _ h.1, h.2.1, h.2.2.1, h.2.2.2.1, fun i a ha => e _ _ (h.2.2.2.2 i a ha)⟩
theorem RowsAt.rd {K : PySem.W.Frag} {H : Hp} {A : Addr} {as : List Addr} {S R : Nat → Int} {n : Nat} {f : Nat → Nat} (h : RowsAt H A as S R n f) {i k : Nat} (hi : i ≤ n) (hk : k < f i) : Rd K H (.ref A) i k (lw S R i k) := by
  have hi' : i < as.length := by rw [h.2.1]; omega
  have ha := List.getElem?_eq_getElem hi'
  refine ⟨A, _, as[i], _, rfl, .inl (.inl (.inl h.1)), ?_, .inl (.inl (.inl (h.2.2.2.2 i _ ha))), ?_⟩
  · rw [List.getElem?_map, ha]; rfl
  · rw [List.getElem?_map, rowc_at hk]; rfl
theorem RowsAt.congr {H : Hp} {A : Addr} {as : List Addr} {S R : Nat → Int} {n : Nat} {f g : Nat → Nat} (h : RowsAt H A as S R n f) (e : ∀ i, i ≤ n → f i = g i) : RowsAt H A as S R n g :=
  ⟨h.1, h.2.1, h.2.2.1, h.2.2.2.1, fun i a ha => by
    have hi : i < as.length := (List.getElem?_eq_some_iff.mp ha).1
    rw [← e i (by rw [h.2.1] at hi; omega)]
    exact h.2.2.2.2 i a ha⟩
theorem RowsAt.push {H : Hp} {A : Addr} {as : List Addr} {S R : Nat → Int} {n : Nat} {f : Nat → Nat} (h : RowsAt H A as S R n f) {i : Nat} {a : Addr} (ha : as[i]? = some a) :
    RowsAt (upd H a (.lst ((rowc S R i (f i)).map V.int ++ [V.int (lw S R i (f i))]))) A as S R n (fun j => if j = i then f i + 1 else f j) := by
  obtain ⟨h1, h2, h3, h4, h5⟩ := h
  have hm : a ∈ as := List.mem_of_getElem? ha
  refine ⟨by rw [upd_ne (h4 a hm).symm]; exact h1, h2, h3, h4, fun j b hb => ?_⟩
  by_cases e : j = i
  · subst e
    rw [ha] at hb
    cases hb
    rw [upd_same]
    dsimp only
    rw [if_pos rfl, rowc_succ, List.map_append]; rfl
  · dsimp only
    rw [if_neg e, upd_ne]
    · exact h5 j b hb
    · intro eb
      subst eb
      exact e ((List.getElem?_inj (List.getElem?_eq_some_iff.mp hb).1 h3).mp (hb.trans ha.symm))
section
variable {P : Program} {w : World} {K : PySem.W.Frag} {mg : Str → Option Value} {base : Heap}
def sp_least_rows (K : PySem.W.Frag) : Sp := fun vs H Q _ => ∃ (a b : Addr) (ss rs : List Int), vs = [.ref a, .ref b] ∧ SqT K H a (ss.map V.int) ∧ SqT K H b (rs.map V.int) ∧ ss.length = rs.length ∧ ss.length ≤ 100 ∧ ∀ H' p, Same H H' → Dp K H' (.ref p) (.tuple (dRows (sm ss) (sm rs) ss.length)) → Q (.ref p) H'
theorem ok_least_rows (TX : Tx K mg) : FnOk P w K mg base CX0 3 TX.a_least_rows TX.fd_least_rows ["sizes", "reads"] (sp_least_rows K) := by
  refine TX.f_least_rows.ok sc_least_rows (fun vs H Q E h => ?_) (fun cdv A outer s H vs Q E hr h => ?_)
  · obtain ⟨a, b, ss, rs, rfl, _⟩ := h; rfl
  · obtain ⟨a, b, ss, rs, rfl, hA, hB, he, h1, q⟩ := h
    refine ⟨_, (pss_cons (ps_set (i := 2) sc_least_rows.nd rfl (.inl rfl) (pe_callB (id := "len") (k_len (K := K) rfl) (by rfl) TX.b_len (by decide +kernel) (pa_cons (pv 0) pa_nil)))
      (pss_cons (ps_set (i := 3) sc_least_rows.nd rfl (.inl rfl) (pe_call (ok_load_sums TX) (hr.mono (by decide)) (by rfl) TX.g_load_sums TX.f_load_sums.kp TX.bd_load_sums .nil pass0 (pa_cons (pv 0) (pa_cons (pv 1) pa_nil))))
      (pss_cons (ps_setLc (i := 4) (own := [("start", 5)]) (by rfl) sc_least_rows.nd rfl rfl (sw_true rfl rfl rfl (by decide +kernel)) (pi_range1 (by rfl) TX.b_range (pa_cons (pe_op op_add (pv 2) pe_int) pa_nil)) (blkOk_by (own := [("start", 5)]) (N := N_least_rows) (sc := defScope s_least_rows) (by decide +kernel)) (fun _ _ _ _ _ => (pg_name (i := 5) sc_least_rows.nd rfl (Or.inl rfl))) (fun _ _ _ _ _ => pts_nil) (fun _ _ _ _ _ => (pe_lst (pa_cons pe_int pa_nil))))
      (pss_cons (ps_for PassesOwn.never rfl (pi_revR (by rfl) TX.b_reversed (prg_1 (by rfl) TX.b_range (pv 2))) (pg_name (i := 5) sc_least_rows.nd rfl (.inl rfl))
        (pss_one (ps_for PassesOwn.never rfl (pi_range2 (by rfl) TX.b_range (pa_cons (pe_op op_add (pv 5) pe_int) (pa_cons (pe_op op_add (pv 2) pe_int) pa_nil))) (pg_name (i := 6) sc_least_rows.nd rfl (.inl rfl))
          (pss_one (ps_expr (pe_bm PySem.F.plainAttrs_list PySem.F.slot_list_append PySem.F.type_list_append mt_append (pe_ix (k_ixL (K := K) rfl) (pv 4) (pv 5) (fun _ _ => rfl)) (pa_cons (pe_ix (k_ixT (K := K) rfl) (pe_callB (id := "min") (cr_minP (K := K) rfl rfl hr.units) (by rfl) TX.b_min (by decide +kernel) (pa_cons (pe_call (ok_works_by_root TX) (hr.mono (by decide)) (by rfl) TX.g_works_by_root TX.f_works_by_root.kp TX.bd_works_by_root .nil pass0 (pa_cons (pv 4) (pa_cons (pv 4) (pa_cons (pv 3) (pa_cons (pv 5) (pa_cons (pv 6) pa_nil)))))) pa_nil)) pe_int (fun _ _ => rfl)) pa_nil)))))))
      (pss_one (ps_ret (pe_callTy (T := "tuple") (k_tupOf (K := K) rfl) (by rfl) TX.b_tuple (by decide +kernel) (pa_cons (pe_lc (own := [("row", 7)]) (by rfl) sc_least_rows.nd (k_piL (K := K) rfl (pv 4)) (blkOk_by (own := [("row", 7)]) (N := N_least_rows) (sc := defScope s_least_rows) (by decide +kernel)) (fun _ _ _ _ _ => (pg_name (i := 7) sc_least_rows.nd rfl (Or.inl rfl))) (fun _ _ _ _ _ => pts_nil) (fun _ _ _ _ _ => (pe_callTy (T := "tuple") (k_tupOf (K := K) rfl) (by rfl) TX.b_tuple (by decide +kernel) (pa_cons (pv 7) pa_nil)))) pa_nil)))))))), ?_⟩
    obtain ⟨n, hn⟩ : ∃ n, n = ss.length := ⟨_, rfl⟩
    have hlen : ((ss.map V.int).length : Int) = (n : Int) := by rw [List.length_map, hn]
    refine ⟨.ref a, rfl, a, _, rfl, .inr hA, ?_⟩
    refine ⟨.ref a, rfl, .ref b, rfl, a, b, ss, rs, rfl, hA, hB, by omega, by omega, fun H1 z s1 hZ => ?_⟩
    rw [hlen]
    refine ⟨_, rfl, _, _, rfl, rfl, _, rfl, by omega, by omega, fun D nD => ?_⟩
    have en : (((n : Int) + 1)).toNat = n + 1 := by omega
    refine lc_it walk_range (fun i H' => Same H1 H' ∧ ∃ as : List Addr, H' D = some (.lst (as.map V.ref)) ∧ as.length = i ∧ as.Nodup ∧ (∀ c, c ∈ as → c ≠ D ∧ H1 c = none) ∧ ∀ c, c ∈ as → H' c = some (.lst [V.int 0])) ⟨same_upd nD, [], upd_same, rfl, List.nodup_nil, (by simp), (by simp)⟩ (fun _ _ _ _ => trivial) ?_ ?_
    · rintro i x H2 H2' hi ⟨s2, as, g1, g2, g3, g4, g5⟩ hy
      obtain ⟨rfl, rfl⟩ := hy
      refine ⟨rfl, ?_⟩
      simp only [tYes, if_true]
      refine ⟨sz60 (by simp), fun p np => ?_⟩
      have s3 := same_upd (o := .lst [V.int 0]) np
      have npD : p ≠ D := fun e => by rw [e, g1] at np; cases np
      have npA : ∀ c, c ∈ as → c ≠ p := fun c hc e => by rw [← e, g5 c hc] at np; cases np
      refine ⟨as.map V.ref, s3 _ _ g1, sz61 (by rw [List.length_map]; omega), Same.mut (s2.trans s3) nD, as ++ [p], ?_, by simp [g2], ?_, ?_, ?_⟩
      · rw [upd_same, List.map_append]; rfl
      · rw [List.nodup_append]
        exact ⟨g3, by simp, fun c hc d hd => by rw [List.mem_singleton.mp hd]; exact npA c hc⟩
      · intro c hc
        rcases List.mem_append.mp hc with hc | hc
        · exact g4 c hc
        · rw [List.mem_singleton.mp hc]
          exact ⟨npD, s2.free np⟩
      · intro c hc
        rcases List.mem_append.mp hc with hc | hc
        · rw [upd_ne (g4 c hc).1]
          exact s3 _ _ (g5 c hc)
        · rw [List.mem_singleton.mp hc, upd_ne npD]
          exact upd_same
    rintro H2 ⟨s2, as, g1, g2, g3, g4, g5⟩
    rw [en] at g2
    have hRows : RowsAt H2 D as (sm ss) (sm rs) n (fun i => if n ≤ i then n + 1 - i else 1) := by
      refine ⟨g1, g2, g3, fun c hc => (g4 c hc).1, fun i c hc => ?_⟩
      rw [g5 c (List.mem_of_getElem? hc)]
      have hi : i < as.length := (List.getElem?_eq_some_iff.mp hc).1
      dsimp only
      have e1 : (if n ≤ i then n + 1 - i else 1) = 1 := by split <;> omega
      rw [e1]; rfl
    have nas : ∀ i c, as[i]? = some c → H1 c = none := fun i c hc => (g4 c (List.mem_of_getElem? hc)).2
    have en2 : ((n : Int) - 0).toNat = n := by omega
    refine ⟨_, rfl, _, rfl, by omega, by omega, by omega, by omega, ?_⟩
    refine for_rangeC (c := -1) (fun j σ H' => ∃ y5 y6 y7, σ = [some (.ref a), some (.ref b), some (.int (n : Int)), some (.ref z), some (.ref D), y5, y6, y7] ∧ Same H1 H' ∧ RowsAt H' D as (sm ss) (sm rs) n (fun i => if n - j ≤ i then n + 1 - i else 1)) ⟨_, _, _, rfl, s2, hRows⟩ ?_ ?_
    · rintro j σ H3 hj ⟨y5, y6, y7, rfl, s3, hR3⟩
      rw [en2] at hj
      obtain ⟨st, hst⟩ : ∃ st : Nat, st = n - 1 - j := ⟨_, rfl⟩
      have ei : (0 : Int) + ((((n : Int) - 0).toNat : Nat) : Int) - 1 + ((j : Nat) : Int) * (-1) = ((st : Nat) : Int) := by omega
      rw [ei]
      refine ⟨_, rfl, _, _, rfl, rfl, _, rfl, _, _, rfl, rfl, _, _, rfl, ⟨by omega, by omega, by omega, by omega⟩, ?_⟩
      have en3 : ((n : Int) + 1 - (((st : Nat) : Int) + 1)).toNat = n - st := by omega
      have hsa : st < as.length := by omega
      have hsc := List.getElem?_eq_getElem hsa
      refine for_range (lo := ((st : Nat) : Int) + 1) (fun t σ H' => ∃ y6 y7, σ = [some (.ref a), some (.ref b), some (.int (n : Int)), some (.ref z), some (.ref D), some (.int ((st : Nat) : Int)), y6, y7] ∧ Same H1 H' ∧ RowsAt H' D as (sm ss) (sm rs) n (fun i => if st + 1 ≤ i then n + 1 - i else if i = st then 1 + t else 1)) ⟨_, _, rfl, s3, hR3.congr fun i hi => ?_⟩ ?_ ?_
      · split <;> split <;> (try split) <;> omega
      · rintro t σ H4 ht ⟨y6, y7, rfl, s4, hR4⟩
        rw [en3] at ht
        have et : ((st : Nat) : Int) + 1 + ((t : Nat) : Int) = ((st + (t + 1) : Nat) : Int) := by omega
        rw [et]
        have hc4 := hR4.2.2.2.2 st _ hsc
        have hff : (if st + 1 ≤ st then n + 1 - st else if st = st then 1 + t else 1) = t + 1 := by rw [if_neg (by omega), if_pos rfl]; omega
        dsimp only at hc4
        rw [hff] at hc4
        have hRd : Rds K H4 (.ref D) (.ref D) (sm ss) (sm rs) st (t + 1) := by
          refine ⟨fun k hk => hR4.rd (by omega) (by rw [hff]; exact hk), fun k hk => hR4.rd (by omega) ?_⟩
          rw [if_pos (by omega)]
          omega
        refine ⟨.ref D, rfl, _, rfl, D, _, _, .ref as[st], rfl, rfl, .inl (.inl hR4.1), atI_nat (by rw [List.getElem?_map, hsc]; rfl), .inl ⟨rfl, _, .inl (.inl hc4)⟩, _, rfl, _, rfl, _, rfl, _, rfl, _, rfl, .ref D, .ref D, .ref z, ss, rs, st, t + 1, rfl, hZ.same s4, by omega, by omega, by omega, hRd, fun H5 p us s5 n5 hp hA5 => ?_⟩
        rw [wbr_via] at hA5
        refine ⟨p, us, _, _, rfl, .inl (.inl hp), hA5, fun c hc => ?_⟩
        rw [wbr_min] at hc
        refine ⟨c, _, 0, _, rfl, rfl, hc, rfl, as[st], _, _, rfl, rfl, s5 _ _ hc4, sz61 (by rw [List.length_map, rowc_len]; omega), ?_⟩
        refine ⟨_, _, rfl, Same.mut (s4.trans s5) (nas _ _ hsc), ?_⟩
        have hp5 := (hR4.same s5).push hsc
        try dsimp only at hp5
        rw [hff] at hp5
        refine hp5.congr fun i hi => ?_
        by_cases e : i = st
        · subst e
          rw [if_pos rfl, if_neg (by omega), if_pos rfl]; omega
        · rw [if_neg e, if_neg e, if_neg e]
      · rintro σ H4 ⟨y6, y7, rfl, s4, hR4⟩
        rw [en3] at hR4
        refine ⟨_, _, _, rfl, s4, hR4.congr fun i hi => ?_⟩
        split <;> split <;> (try split) <;> omega
    · rintro σ H3 ⟨y5, y6, y7, rfl, s3, hR3⟩
      rw [en2] at hR3
      refine ⟨.ref D, rfl, D, rfl, ⟨_, .inl (.inl hR3.1)⟩, fun D2 nD2 => ?_⟩
      refine lc_all (K := K) (walk_list (xs := as.map V.ref)) (dRows (sm ss) (sm rs) n) (by rw [dRows_len, List.length_map, g2]) (fun d h => by obtain ⟨i, _, rfl⟩ := List.mem_map.mp h; exact tf_row _ _ _ _) (by rw [List.length_map]; omega) nD2 (fun H' s' => s'.seq (.inl (.inl hR3.1))) ?_ ?_ (fun x σ' H' Q Q' h => h _ _) (fun σ' H' Q Q' h => h _ _)
      · rintro i x Hx Hx' hi sx ⟨rfl, hx⟩ d hd R hRR
        rw [List.getElem?_map, Option.map_eq_some_iff] at hx
        obtain ⟨c, hc, rfl⟩ := hx
        have hi2 : i ≤ n := by rw [List.length_map] at hi; omega
        rw [dRows_at hi2] at hd
        cases hd
        have hc3 := sx _ _ (hR3.2.2.2.2 i c hc)
        dsimp only at hc3
        rw [if_pos (by omega)] at hc3
        refine ⟨rfl, rfl, .ref c, rfl, c, _, rfl, .inl ⟨.inl (.inl hc3), fun l nl => hRR _ _ (same_upd nl) ?_⟩⟩
        exact .tup (.inl (.inl upd_same)) (dp_ints _)
      · intro H5 acc s5 ha hA5
        refine ⟨D2, _, rfl, .inl ⟨.inl (.inl ha), fun o no => ?_⟩⟩
        refine q _ o (((s1.trans s3).trans s5).trans (same_upd no)) (.tup (.inl (.inl upd_same)) (DpAll.same (same_upd no) ?_))
        rw [← hn]
        exact hA5
end
section
variable {P : Program} {w : World} {K : PySem.W.Frag} {mg : Str → Option Value} {base : Heap}
theorem rows_rd {K : PySem.W.Frag} {H : Hp} {v : V} {S R : Nat → Int} {n : Nat} (h : Dp K H v (.tuple (dRows S R n))) {i k : Nat} (hi : i + k ≤ n) : Rd K H v i k (lw S R i k) := by
  obtain ⟨a, xs, rfl, hS, hA⟩ := Dp.tupInv h
  obtain ⟨x, hx, hD⟩ := DpAll.get hA (dRows_at (show i ≤ n by omega))
  obtain ⟨b, rfl, hB⟩ := Dp.intsInv hD
  refine ⟨a, xs, b, _, rfl, .inr hS, hx, .inr hB, ?_⟩
  rw [List.getElem?_map, rowc_at (by omega)]; rfl
theorem rows_rds {K : PySem.W.Frag} {H : Hp} {v : V} {S R : Nat → Int} {n : Nat} (h : Dp K H v (.tuple (dRows S R n))) {i m : Nat} (hi : i + m ≤ n) : Rds K H v v S R i m :=
  ⟨fun k hk => rows_rd h (by omega), fun k hk => rows_rd h (by omega)⟩
def sp_runs_at_end (K : PySem.W.Frag) : Sp := fun vs H Q _ => ∃ (a : Addr) (t : T), vs = [.ref a] ∧ SqT K H a (vi t.sch) ∧ t.size ≤ 1000 ∧ Q (.int (t.runs : Int)) H
theorem ok_runs_at_end (TX : Tx K mg) : FnOk P w K mg base CX0 1 TX.a_runs_at_end TX.fd_runs_at_end ["schedule"] (sp_runs_at_end K) := by
  refine TX.f_runs_at_end.ok sc_runs_at_end (fun vs H Q E h => ?_) (fun cdv A outer s H vs Q E hr h => ?_)
  · obtain ⟨a, t, rfl, _⟩ := h; rfl
  · obtain ⟨a, t, rfl, hS, hz, q⟩ := h
    refine ⟨_, (pss_one (ps_ret (pe_op op_sub (pe_callB (id := "len") (k_len (K := K) rfl) (by rfl) TX.b_len (by decide +kernel) (pa_cons (pv 0) pa_nil)) (pe_callB (id := "sum") (k_sumT (K := K) rfl rfl) (by rfl) TX.b_sum (by decide +kernel) (pa_cons (pv 0) pa_nil))))), ?_⟩
    refine ⟨.ref a, rfl, a, _, rfl, .inr hS, .ref a, rfl, a, ci t.sch, rfl, by rw [← vi_ci]; exact hS, _, _, rfl, rfl, ?_⟩
    have e : ((vi t.sch).length : Int) - (ci t.sch).sum = (t.runs : Int) := by
      have h1 := T.sum_sch t
      have h2 : (ci t.sch).sum = ((t.sch.sum : Nat) : Int) := by
        unfold ci
        induction t.sch with
        | nil => rfl
        | cons x xs ih => simp only [List.map_cons, List.sum_cons, ih, Int.natCast_add]
      rw [vi_len, T.sch_len, h2]
      omega
    show Q (V.int (((vi t.sch).length : Int) - (ci t.sch).sum)) H
    rw [e]
    exact q
def sp_joined (K : PySem.W.Frag) : Sp := fun vs H Q _ => ∃ (a b : Addr) (l r : T), vs = [.ref a, .ref b] ∧ SqT K H a (vi l.sch) ∧ SqT K H b (vi r.sch) ∧ l.size + r.size ≤ 900 ∧ ∀ H' p, Same H H' → SqT K H' p (vi (T.node l r).sch) → Q (.ref p) H'
theorem ok_joined (TX : Tx K mg) : FnOk P w K mg base CX0 2 TX.a_joined TX.fd_joined ["left", "right"] (sp_joined K) := by
  refine TX.f_joined.ok sc_joined (fun vs H Q E h => ?_) (fun cdv A outer s H vs Q E hr h => ?_)
  · obtain ⟨a, b, l, r, rfl, _⟩ := h; rfl
  · obtain ⟨a, b, l, r, rfl, hA, hB, hz, q⟩ := h
    refine ⟨_, (pss_one (ps_ret (pe_op (k_catT (K := K) rfl) (pe_op (k_catT (K := K) rfl) (pv 0) (pe_tup (pa_cons (pe_call (ok_runs_at_end TX) (hr.mono (by decide)) (by rfl) TX.g_runs_at_end TX.f_runs_at_end.kp TX.bd_runs_at_end .nil pass0 (pa_cons (pv 0) pa_nil)) pa_nil))) (pv 1)))), ?_⟩
    refine ⟨.ref a, rfl, .ref a, rfl, a, l, rfl, hA, by omega, sz60 (by simp), fun p np => ?_⟩
    have s1 := same_upd (o := .tup [V.int (l.runs : Int)]) np
    refine cat_read (Same.tup s1 hA) (.inl (.inl upd_same)) (by simp [vi_len, T.sch_len]; omega) fun p2 H2 s2 h2 => ⟨.ref b, rfl, ?_⟩
    refine cat_read h2 (Same.tup (s1.trans s2) hB) (by simp [vi_len, T.sch_len]; omega) fun p3 H3 s3 h3 => q _ p3 ((s1.trans s2).trans s3) ?_
    have e : vi (T.node l r).sch = vi l.sch ++ [V.int (l.runs : Int)] ++ vi r.sch := by simp [T.sch, vi]
    rw [e]
    exact h3
def spq_sin (N : Nat) (K : PySem.W.Frag) : Sp := fun vs H Q _ => ∃ (v z : V) (ss rs : List Int) (i m : Nat), vs = [v, z, .int (i : Int), .int ((i + m : Nat) : Int)] ∧ Dp K H v (.tuple (dRows (sm ss) (sm rs) ss.length)) ∧ Sms K H z ss rs ∧ ss.length = rs.length ∧ ss.length ≤ 100 ∧ i + m ≤ ss.length ∧ m < N ∧
  ∀ H' p, Same H H' → SqT K H' p (vi (lt (sm ss) (sm rs) i m).sch) → Q (.ref p) H'
theorem ok_sin (TX : Tx K mg) : ∀ N : Nat, FnOk P w K mg base CX0 (3 + N) TX.a_schedule_in_optimum TX.fd_schedule_in_optimum ["rows", "sums", "start", "stop"] (spq_sin N K)
  | 0 => ⟨fun vs H Q E h => by obtain ⟨_, _, _, _, _, _, _, _, _, _, _, _, h, _⟩ := h; omega, fun A outer s H args us vs Q E _ _ _ _ h => by obtain ⟨_, _, _, _, _, _, _, _, _, _, _, _, h, _⟩ := h; omega⟩
  | N + 1 => by
    have ih := ok_sin TX N
    refine TX.f_schedule_in_optimum.ok (k := 3 + N) sc_schedule_in_optimum (fun vs H Q E h => ?_) (fun cdv A outer s H vs Q E hr h => ?_)
    · obtain ⟨v, z, ss, rs, i, m, rfl, _⟩ := h; rfl
    · obtain ⟨v, z, ss, rs, i, m, rfl, hD, hZ, he, h1, h2, hN, q⟩ := h
      refine ⟨_, (pss_cons (ps_if (pt_cmpR op_eq (pv 2) (pv 3) (nomark _))
        (pss_one (ps_ret (pe_tup pa_nil)))
        pss_nil)
      (pss_cons (ps_set (i := 4) sc_schedule_in_optimum.nd rfl (.inl rfl) (pe_call (ok_least_root TX) (hr.mono (by omega)) (by rfl) TX.g_least_root TX.f_least_root.kp TX.bd_least_root .nil pass0 (pa_cons (pv 0) (pa_cons (pv 0) (pa_cons (pv 1) (pa_cons (pv 2) (pa_cons (pv 3) pa_nil)))))))
      (pss_one (ps_ret (pe_call (ok_joined TX) (hr.mono (by omega)) (by rfl) TX.g_joined TX.f_joined.kp TX.bd_joined .nil pass0 (pa_cons (pe_call ih (hr.mono (by omega)) (by rfl) TX.g_schedule_in_optimum TX.f_schedule_in_optimum.kp TX.bd_schedule_in_optimum .nil pass0 (pa_cons (pv 0) (pa_cons (pv 1) (pa_cons (pv 2) (pa_cons (pv 4) pa_nil))))) (pa_cons (pe_call ih (hr.mono (by omega)) (by rfl) TX.g_schedule_in_optimum TX.f_schedule_in_optimum.kp TX.bd_schedule_in_optimum .nil pass0 (pa_cons (pv 0) (pa_cons (pv 1) (pa_cons (pe_op op_add (pv 4) pe_int) (pa_cons (pv 3) pa_nil))))) pa_nil))))))), ?_⟩
      refine ⟨_, rfl, _, rfl, rfl, _, rfl, ?_⟩
      cases m with
      | zero =>
        refine iteB1 (by simp) ⟨sz60 (by simp), fun p np => q _ p (same_upd np) (.inl (.inl upd_same))⟩
      | succ m =>
        have hne : decide (V.int ((i : Nat) : Int) = V.int ((i + (m + 1) : Nat) : Int)) = false := decide_eq_false fun e => by
          have := V.int.inj e
          omega
        have hrt := rt_le (sm ss) (sm rs) i m
        refine iteB0 hne ?_
        refine ⟨_, rfl, _, rfl, _, rfl, _, rfl, _, rfl, v, v, z, ss, rs, i, m, rfl, hZ, h2, by omega, by omega, rows_rds hD h2, fun H1 s1 => ?_⟩
        refine ⟨_, rfl, _, rfl, _, rfl, _, rfl, v, z, ss, rs, i, rt (sm ss) (sm rs) i m, rfl, Dp.same s1 hD, hZ.same s1, he, h1, by omega, by omega, fun H2 p2 s2 hp2 => ?_⟩
        have s12 := s1.trans s2
        have e1 : ((i + rt (sm ss) (sm rs) i m : Nat) : Int) + 1 = ((i + rt (sm ss) (sm rs) i m + 1 : Nat) : Int) := by omega
        have e2 : i + (m + 1) = i + rt (sm ss) (sm rs) i m + 1 + (m - rt (sm ss) (sm rs) i m) := by omega
        refine ⟨_, rfl, _, rfl, _, rfl, _, _, rfl, rfl, _, rfl, v, z, ss, rs, i + rt (sm ss) (sm rs) i m + 1, m - rt (sm ss) (sm rs) i m, ?_, Dp.same s12 hD, hZ.same s12, he, h1, by omega, by omega, fun H3 p3 s3 hp3 => ?_⟩
        · show [v, z, V.int (((i + rt (sm ss) (sm rs) i m : Nat) : Int) + 1), V.int ((i + (m + 1) : Nat) : Int)] = _
          rw [e1, ← e2]
        · refine ⟨p2, p3, _, _, rfl, Same.tup s3 hp2, hp3, by rw [lt_size, lt_size]; omega, fun H4 p4 s4 hp4 => q _ p4 ((s12.trans s3).trans s4) ?_⟩
          rw [lt_succ]
          exact hp4
theorem ok_schedule_in_optimum (TX : Tx K mg) : FnOk P w K mg base CX0 64 TX.a_schedule_in_optimum TX.fd_schedule_in_optimum ["rows", "sums", "start", "stop"] (spq_sin 61 K) := ok_sin TX 61
def sp_least_of (K : PySem.W.Frag) : Sp := fun vs H Q _ => ∃ (a b : Addr) (ss rs : List Int), vs = [.ref a, .ref b] ∧ SqT K H a (ss.map V.int) ∧ SqT K H b (rs.map V.int) ∧ ss.length = rs.length ∧ ss.length ≤ 60 ∧ ∀ H' p r, Same H H' → SqT K H' p [.int (lw (sm ss) (sm rs) 0 ss.length), .ref r] → SqT K H' r (vi (lt (sm ss) (sm rs) 0 ss.length).sch) → Q (.ref p) H'
theorem ok_least_of (TX : Tx K mg) : FnOk P w K mg base CX0 65 TX.a_least_of TX.fd_least_of ["sizes", "reads"] (sp_least_of K) := by
  refine TX.f_least_of.ok sc_least_of (fun vs H Q E h => ?_) (fun cdv A outer s H vs Q E hr h => ?_)
  · obtain ⟨a, b, ss, rs, rfl, _⟩ := h; rfl
  · obtain ⟨a, b, ss, rs, rfl, hA, hB, he, h1, q⟩ := h
    refine ⟨_, (pss_cons (ps_set (i := 2) sc_least_of.nd rfl (.inl rfl) (pe_call (ok_least_rows TX) (hr.mono (by decide)) (by rfl) TX.g_least_rows TX.f_least_rows.kp TX.bd_least_rows .nil pass0 (pa_cons (pv 0) (pa_cons (pv 1) pa_nil))))
      (pss_one (ps_ret (pe_tup (pa_cons (pe_ix (k_ixT (K := K) rfl) (pe_ix (k_ixT (K := K) rfl) (pv 2) pe_int (fun _ _ => rfl)) (pe_un un_neg pe_int) (fun _ _ => rfl)) (pa_cons (pe_call (ok_schedule_in_optimum TX) (hr.mono (by decide)) (by rfl) TX.g_schedule_in_optimum TX.f_schedule_in_optimum.kp TX.bd_schedule_in_optimum .nil pass0 (pa_cons (pv 2) (pa_cons (pe_call (ok_load_sums TX) (hr.mono (by decide)) (by rfl) TX.g_load_sums TX.f_load_sums.kp TX.bd_load_sums .nil pass0 (pa_cons (pv 0) (pa_cons (pv 1) pa_nil))) (pa_cons pe_int (pa_cons (pe_callB (id := "len") (k_len (K := K) rfl) (by rfl) TX.b_len (by decide +kernel) (pa_cons (pv 0) pa_nil)) pa_nil))))) pa_nil)))))), ?_⟩
    refine ⟨.ref a, rfl, .ref b, rfl, a, b, ss, rs, rfl, hA, hB, he, by omega, fun H1 p s1 hD => ?_⟩
    obtain ⟨p', xs, e, hS, hX⟩ := Dp.tupInv hD
    cases e
    obtain ⟨x, hx, hx2⟩ := DpAll.get hX (dRows_at (show 0 ≤ ss.length by omega))
    obtain ⟨c, rfl, hC⟩ := Dp.intsInv hx2
    have hlast : atI ((rowc (sm ss) (sm rs) 0 (ss.length + 1 - 0)).map V.int) (-1) = some (V.int (lw (sm ss) (sm rs) 0 ss.length)) := by
      rw [Nat.sub_zero, rowc_succ, List.map_append]
      exact atI_last _ _
    refine ⟨.ref p, rfl, p, xs, 0, .ref c, rfl, rfl, hS, atI_nat hx, _, rfl, c, _, -1, _, rfl, rfl, hC, hlast, ?_⟩
    refine ⟨.ref p, rfl, .ref a, rfl, .ref b, rfl, a, b, ss, rs, rfl, Same.tup s1 hA, Same.tup s1 hB, by omega, by omega, fun H2 z s2 hZ => ?_⟩
    have s12 := s1.trans s2
    refine ⟨.ref a, rfl, a, _, rfl, .inr (Same.tup s12 hA), .ref p, .ref z, ss, rs, 0, ss.length, ?_, Dp.same s2 hD, hZ, he, by omega, by omega, by omega, fun H3 r s3 hr3 => ⟨sz60 (by simp), fun o no => ?_⟩⟩
    · rw [List.length_map, Nat.zero_add]; rfl
    · have s4 := same_upd (o := .tup [V.int (lw (sm ss) (sm rs) 0 ss.length), V.ref r]) no
      exact q _ o r ((s12.trans s3).trans s4) (.inl (.inl upd_same)) (Same.tup s4 hr3)
def sp_least_work (K : PySem.W.Frag) : Sp := fun vs H Q _ => ∃ (a b : Addr) (ss rs : List Int), vs = [.ref a, .ref b] ∧ SqT K H a (ss.map V.int) ∧ SqT K H b (rs.map V.int) ∧ Lds ss ∧ Lds rs ∧ ss.length = rs.length ∧ ss.length ≤ 60 ∧ ∀ H' p r, Same H H' → SqT K H' p [.int (lw (sm ss) (sm rs) 0 ss.length), .ref r] → SqT K H' r (vi (lt (sm ss) (sm rs) 0 ss.length).sch) → Q (.ref p) H'
theorem ok_least_work (TX : Tx K mg) : FnOk P w K mg base CX0 66 TX.a_least_work TX.fd_least_work ["sizes", "reads"] (sp_least_work K) := by
  refine TX.f_least_work.ok sc_least_work (fun vs H Q E h => ?_) (fun cdv A outer s H vs Q E hr h => ?_)
  · obtain ⟨a, b, ss, rs, rfl, _⟩ := h; rfl
  · obtain ⟨a, b, ss, rs, rfl, hA, hB, hs, hr', he, h1, q⟩ := h
    refine ⟨_, (pss_cons (ps_expr (pe_call (ok_check_loads TX) (hr.mono (by decide)) (by rfl) TX.g_check_loads TX.f_check_loads.kp TX.bd_check_loads .nil pass0 (pa_cons (pv 0) (pa_cons (pv 1) (pa_cons (pe_glob (v := .int (60)) (by rfl) TX.c_MOST_FLUSHES ⟨_, rfl⟩) pa_nil)))))
      (pss_one (ps_ret (pe_call (ok_least_of TX) (hr.mono (by decide)) (by rfl) TX.g_least_of TX.f_least_of.kp TX.bd_least_of .nil pass0 (pa_cons (pv 0) (pa_cons (pv 1) pa_nil)))))), ?_⟩
    refine ⟨.ref a, rfl, .ref b, rfl, a, b, ss, rs, 60, rfl, hA, hB, hs, hr', he, by omega, by omega, fun H1 s1 => ?_⟩
    exact ⟨.ref a, rfl, .ref b, rfl, a, b, ss, rs, rfl, Same.tup s1 hA, Same.tup s1 hB, he, h1, fun H2 p r s2 => q H2 p r (s1.trans s2)⟩
end
def pnt (ss rs : List Int) (t : T) : Int × Int := (dot ss t.wr, dot rs t.rc)
def bst (ss rs : List Int) (x y : Int) : T := lt (sm (ss.map (x * ·))) (sm (rs.map (y * ·))) 0 ss.length
def dE (ss rs : List Int) (t : T) : PyData := .tuple [dP (pnt ss rs t), .tuple ((ci t.sch).map PyData.int)]
theorem tf_dE (ss rs : List Int) (t : T) : Tf (dE ss rs t) := .tup fun d h => by
  rcases List.mem_cons.mp h with rfl | h
  · exact tf_dP _
  · rcases List.mem_cons.mp h with rfl | h
    · exact .tup (tf_ints _)
    · cases h
theorem bst_size (ss rs : List Int) (x y : Int) : (bst ss rs x y).size = ss.length := lt_size _ _ _ _
def fac (ss : List Int) : Int := (ss.length : Int) * ss.sum
theorem fac_bd {ss : List Int} (h : Lds ss) (hn : ss.length ≤ 60) : 0 ≤ ss.sum ∧ ss.sum ≤ 60000000000 ∧ 0 ≤ fac ss ∧ fac ss ≤ 3600000000000 := by
  have key : ∀ {l : List Int}, Lds l → 0 ≤ l.sum ∧ l.sum ≤ (l.length : Int) * 1000000000 := by
    intro l
    induction l with
    | nil => intro _; simp
    | cons x l ih =>
      intro h
      have a := h x (List.mem_cons_self ..)
      have b := ih fun y hy => h y (List.mem_cons_of_mem _ hy)
      rw [List.sum_cons, List.length_cons]
      omega
  have a := key h
  have b : (ss.length : Int) * ss.sum ≤ 60 * 60000000000 := Int.mul_le_mul (by omega) (by omega) (by omega) (by omega)
  have c : 0 ≤ (ss.length : Int) * ss.sum := Int.mul_nonneg (by omega) a.1
  unfold fac
  omega
theorem pnt_bd {ss rs : List Int} {t : T} (hs : Lds ss) (hr : Lds rs) (h1 : ss.length ≤ 60) (h2 : rs.length ≤ 60) (ht : t.size ≤ 60) : (0 ≤ (pnt ss rs t).1 ∧ (pnt ss rs t).1 ≤ 3600000000000) ∧ 0 ≤ (pnt ss rs t).2 ∧ (pnt ss rs t).2 ≤ 3600000000000 := by
  have a := dot_bd (ns := t.wr) hs fun n hn => by have := wr_le t n hn; omega
  have b := dot_bd (ns := t.rc) hr fun n hn => by have := rc_le t n hn; omega
  unfold pnt
  dsimp only
  omega
/-- the tilted direction between two points -/
def tilt (ss : List Int) (p q : Int × Int) : Int × Int := ((p.2 - q.2) * (1 + fac ss) + 1, (q.1 - p.1) * (1 + fac ss))
/-- the loop: what was found, the newest first; what waits, the nearest first -/
def sim (ss rs : List Int) : Nat → List T → List T → Option (List T)
  | _, fr, [] => some fr.reverse
  | 0, _, _ :: _ => none
  | _ + 1, [], _ :: _ => none
  | f + 1, n :: fr, w :: ws =>
    if pnt ss rs (bst ss rs (tilt ss (pnt ss rs n) (pnt ss rs w)).1 (tilt ss (pnt ss rs n) (pnt ss rs w)).2) = pnt ss rs n then sim ss rs f (w :: n :: fr) ws
    else sim ss rs f (n :: fr) (bst ss rs (tilt ss (pnt ss rs n) (pnt ss rs w)).1 (tilt ss (pnt ss rs n) (pnt ss rs w)).2 :: w :: ws)
def crn (ss rs : List Int) : Option (List T) :=
  if pnt ss rs (bst ss rs (2 + fac rs) 1) = pnt ss rs (bst ss rs 1 (2 + fac ss)) then some [bst ss rs (2 + fac rs) 1]
  else sim ss rs 20 [bst ss rs (2 + fac rs) 1] [bst ss rs 1 (2 + fac ss)]
theorem eqv_dP (p q : Int × Int) : PyData.eqv (dP p) (dP q) = decide (p = q) := by
  obtain ⟨a, b⟩ := p
  obtain ⟨c, d⟩ := q
  simp only [dP, PyData.eqv, PyData.eqvAll, Prod.mk.injEq, Bool.and_true]
  by_cases h1 : a = c <;> by_cases h2 : b = d <;> simp [h1, h2]
theorem sh_dP (p : Int × Int) : Sh 1 (dP p) := Sh.tup (k := 0) (Sh.ints [p.1, p.2])
section
variable {P : Program} {w : World} {K : PySem.W.Frag} {mg : Str → Option Value} {base : Heap}
theorem eq_dP {K : PySem.W.Frag} {H : Hp} {x y : V} {p q : Int × Int} {Q : VK} (hx : Dp K H x (dP p)) (hy : Dp K H y (dP q)) (h : Q (.bl (decide (p = q))) H) : rEqD K x y H Q :=
  ⟨dP p, dP q, hx, hy, (sh_dP p).shaped (by decide), (sh_dP q).shaped (by decide), by rw [eqv_dP]; exact h⟩
def sp_scaled (K : PySem.W.Frag) : Sp := fun vs H Q _ => ∃ (a : Addr) (xs : List Int) (c : Int), vs = [.ref a, .int c] ∧ SqT K H a (xs.map V.int) ∧ Lds xs ∧ xs.length ≤ 60 ∧ c.natAbs < 2 ^ 100 ∧ ∀ H' p, Same H H' → SqT K H' p ((xs.map (c * ·)).map V.int) → Q (.ref p) H'
theorem ok_scaled (TX : Tx K mg) : FnOk P w K mg base CX0 1 TX.a_scaled TX.fd_scaled ["loads", "price"] (sp_scaled K) := by
  refine TX.f_scaled.ok sc_scaled (fun vs H Q E h => ?_) (fun cdv A outer s H vs Q E hr h => ?_)
  · obtain ⟨a, xs, c, rfl, _⟩ := h; rfl
  · obtain ⟨a, xs, c, rfl, hA, hL, hz, hc, q⟩ := h
    refine ⟨_, (pss_one (ps_ret (pe_callTy (T := "tuple") (k_tupOf (K := K) rfl) (by rfl) TX.b_tuple (by decide +kernel) (pa_cons (pe_lc (own := [("load", 2)]) (by rfl) sc_scaled.nd (k_piT (K := K) rfl (pv 0)) (blkOk_by (own := [("load", 2)]) (N := N_scaled) (sc := defScope s_scaled) (by decide +kernel)) (fun _ _ _ _ _ => (pg_name (i := 2) sc_scaled.nd rfl (Or.inl rfl))) (fun _ _ _ _ _ => pts_nil) (fun _ _ _ _ _ => (pe_op op_mulW (pv 1) (pv 2)))) pa_nil)))), ?_⟩
    refine ⟨.ref a, rfl, a, rfl, ⟨_, hA⟩, fun D nD => ?_⟩
    refine lc_all (K := K) (walk_tup (xs := xs.map V.int)) ((xs.map (c * ·)).map PyData.int) (by simp) (tf_ints _) (by simp; omega) nD (fun H' s' => Same.tup s' hA) ?_ ?_ (fun x σ' H' Q Q' h => h _ _) (fun σ' H' Q Q' h => h _ _)
    · rintro i x Hx Hx' hi sx ⟨rfl, hx⟩ d hd R hR
      rw [List.getElem?_map, Option.map_eq_some_iff] at hx
      obtain ⟨z, hz', rfl⟩ := hx
      rw [List.getElem?_map, List.getElem?_map, hz'] at hd
      cases hd
      have b := hL z (List.mem_of_getElem? hz')
      exact ⟨rfl, rfl, _, rfl, _, rfl, _, _, rfl, rfl, wide_mul (a := 100) (b := 31) hc (by omega) (by decide) (by decide) (by decide), hR _ _ (Same.refl _) (.int _)⟩
    · intro H5 acc s5 ha hA5
      rw [dp_ints_inv hA5] at ha
      exact ⟨D, _, rfl, .inl ⟨.inl (.inl ha), fun o no => q _ o (s5.trans (same_upd no)) (.inl (.inl upd_same))⟩⟩
def sp_first_direction (K : PySem.W.Frag) : Sp := fun vs H Q _ => ∃ (a : Addr) (xs : List Int), vs = [.ref a] ∧ SqT K H a (xs.map V.int) ∧ Lds xs ∧ xs.length ≤ 60 ∧ ∀ H' p, Same H H' → SqT K H' p [.int (2 + fac xs), .int 1] → Q (.ref p) H'
theorem ok_first_direction (TX : Tx K mg) : FnOk P w K mg base CX0 1 TX.a_first_direction TX.fd_first_direction ["reads"] (sp_first_direction K) := by
  refine TX.f_first_direction.ok sc_first_direction (fun vs H Q E h => ?_) (fun cdv A outer s H vs Q E hr h => ?_)
  · obtain ⟨a, xs, rfl, _⟩ := h; rfl
  · obtain ⟨a, xs, rfl, hA, hL, hz, q⟩ := h
    refine ⟨_, (pss_one (ps_ret (pe_tup (pa_cons (pe_op op_add pe_int (pe_op op_mulW (pe_callB (id := "len") (k_len (K := K) rfl) (by rfl) TX.b_len (by decide +kernel) (pa_cons (pv 0) pa_nil)) (pe_callB (id := "sum") (k_sumT (K := K) rfl rfl) (by rfl) TX.b_sum (by decide +kernel) (pa_cons (pv 0) pa_nil)))) (pa_cons pe_int pa_nil))))), ?_⟩
    have b := fac_bd hL hz
    have hl : ((xs.map V.int).length : Int) = (xs.length : Int) := by rw [List.length_map]
    refine ⟨.ref a, rfl, a, _, rfl, .inr hA, .ref a, rfl, a, xs, rfl, hA, _, _, rfl, rfl, wide_mul (a := 8) (b := 40) (by omega) (by omega) (by decide) (by decide) (by decide), _, _, rfl, rfl, sz60 (by simp), fun p np => q _ p (same_upd np) (.inl (.inl ?_))⟩
    unfold fac
    rw [← hl]
    exact upd_same
def sp_last_direction (K : PySem.W.Frag) : Sp := fun vs H Q _ => ∃ (a : Addr) (xs : List Int), vs = [.ref a] ∧ SqT K H a (xs.map V.int) ∧ Lds xs ∧ xs.length ≤ 60 ∧ ∀ H' p, Same H H' → SqT K H' p [.int 1, .int (2 + fac xs)] → Q (.ref p) H'
theorem ok_last_direction (TX : Tx K mg) : FnOk P w K mg base CX0 1 TX.a_last_direction TX.fd_last_direction ["sizes"] (sp_last_direction K) := by
  refine TX.f_last_direction.ok sc_last_direction (fun vs H Q E h => ?_) (fun cdv A outer s H vs Q E hr h => ?_)
  · obtain ⟨a, xs, rfl, _⟩ := h; rfl
  · obtain ⟨a, xs, rfl, hA, hL, hz, q⟩ := h
    refine ⟨_, (pss_one (ps_ret (pe_tup (pa_cons pe_int (pa_cons (pe_op op_add pe_int (pe_op op_mulW (pe_callB (id := "len") (k_len (K := K) rfl) (by rfl) TX.b_len (by decide +kernel) (pa_cons (pv 0) pa_nil)) (pe_callB (id := "sum") (k_sumT (K := K) rfl rfl) (by rfl) TX.b_sum (by decide +kernel) (pa_cons (pv 0) pa_nil)))) pa_nil))))), ?_⟩
    have b := fac_bd hL hz
    have hl : ((xs.map V.int).length : Int) = (xs.length : Int) := by rw [List.length_map]
    refine ⟨.ref a, rfl, a, _, rfl, .inr hA, .ref a, rfl, a, xs, rfl, hA, _, _, rfl, rfl, wide_mul (a := 8) (b := 40) (by omega) (by omega) (by decide) (by decide) (by decide), _, _, rfl, rfl, sz60 (by simp), fun p np => q _ p (same_upd np) (.inl (.inl ?_))⟩
    unfold fac
    rw [← hl]
    exact upd_same
def sp_direction_between (K : PySem.W.Frag) : Sp := fun vs H Q _ => ∃ (a b : Addr) (p q : Int × Int), vs = [.ref a, .ref b] ∧ SqT K H a [.int p.1, .int p.2] ∧ SqT K H b [.int q.1, .int q.2] ∧ ∀ H' o, Same H H' → SqT K H' o [.int (p.2 - q.2), .int (q.1 - p.1)] → Q (.ref o) H'
theorem ok_direction_between (TX : Tx K mg) : FnOk P w K mg base CX0 1 TX.a_direction_between TX.fd_direction_between ["point", "following"] (sp_direction_between K) := by
  refine TX.f_direction_between.ok sc_direction_between (fun vs H Q E h => ?_) (fun cdv A outer s H vs Q E hr h => ?_)
  · obtain ⟨a, b, p, q', rfl, _⟩ := h; rfl
  · obtain ⟨a, b, p, q', rfl, hA, hB, q⟩ := h
    refine ⟨_, (pss_one (ps_ret (pe_tup (pa_cons (pe_op op_sub (pe_ix (k_ixT (K := K) rfl) (pv 0) pe_int (fun _ _ => rfl)) (pe_ix (k_ixT (K := K) rfl) (pv 1) pe_int (fun _ _ => rfl))) (pa_cons (pe_op op_sub (pe_ix (k_ixT (K := K) rfl) (pv 1) pe_int (fun _ _ => rfl)) (pe_ix (k_ixT (K := K) rfl) (pv 0) pe_int (fun _ _ => rfl))) pa_nil))))), ?_⟩
    exact ⟨.ref a, rfl, a, _, 1, _, rfl, rfl, hA, rfl, .ref b, rfl, b, _, 1, _, rfl, rfl, hB, rfl, _, _, rfl, rfl, .ref b, rfl, b, _, 0, _, rfl, rfl, hB, rfl, .ref a, rfl, a, _, 0, _, rfl, rfl, hA, rfl, _, _, rfl, rfl, sz60 (by simp), fun o no => q _ o (same_upd no) (.inl (.inl upd_same))⟩
def sp_tilted (K : PySem.W.Frag) : Sp := fun vs H Q _ => ∃ (a b : Addr) (x y : Int) (xs : List Int), vs = [.ref a, .ref b] ∧ SqT K H a [.int x, .int y] ∧ SqT K H b (xs.map V.int) ∧ Lds xs ∧ xs.length ≤ 60 ∧ x.natAbs < 2 ^ 50 ∧ y.natAbs < 2 ^ 50 ∧ ∀ H' o, Same H H' → SqT K H' o [.int (x * (1 + fac xs) + 1), .int (y * (1 + fac xs))] → Q (.ref o) H'
theorem ok_tilted (TX : Tx K mg) : FnOk P w K mg base CX0 1 TX.a_tilted TX.fd_tilted ["direction", "sizes"] (sp_tilted K) := by
  refine TX.f_tilted.ok sc_tilted (fun vs H Q E h => ?_) (fun cdv A outer s H vs Q E hr h => ?_)
  · obtain ⟨a, b, x, y, xs, rfl, _⟩ := h; rfl
  · obtain ⟨a, b, x, y, xs, rfl, hA, hB, hL, hz, hx, hy, q⟩ := h
    refine ⟨_, (pss_cons (ps_asg (pv 0) (pg_tup rfl (pgs_cons (pg_name (i := 2) sc_tilted.nd rfl (.inl rfl)) (pgs_cons (pg_name (i := 3) sc_tilted.nd rfl (.inl rfl)) pgs_nil))))
      (pss_cons (ps_set (i := 4) sc_tilted.nd rfl (.inl rfl) (pe_op op_add pe_int (pe_op op_mulW (pe_callB (id := "len") (k_len (K := K) rfl) (by rfl) TX.b_len (by decide +kernel) (pa_cons (pv 1) pa_nil)) (pe_callB (id := "sum") (k_sumT (K := K) rfl rfl) (by rfl) TX.b_sum (by decide +kernel) (pa_cons (pv 1) pa_nil)))))
      (pss_one (ps_ret (pe_tup (pa_cons (pe_op op_add (pe_op op_mulW (pv 2) (pv 4)) pe_int) (pa_cons (pe_op op_mulW (pv 3) (pv 4)) pa_nil))))))), ?_⟩
    have bb := fac_bd hL hz
    have hl : ((xs.map V.int).length : Int) = (xs.length : Int) := by rw [List.length_map]
    have hf : (1 + ((xs.map V.int).length : Int) * xs.sum) = 1 + fac xs := by rw [hl]; rfl
    have hf2 : (1 + ((xs.map V.int).length : Int) * xs.sum).natAbs < 2 ^ 50 := by rw [hf]; omega
    refine ⟨.ref a, rfl, a, _, rfl, hA, rfl, _, _, rfl, _, [], rfl, rfl, ?_⟩
    refine ⟨.ref b, rfl, b, _, rfl, .inr hB, .ref b, rfl, b, xs, rfl, hB, _, _, rfl, rfl, wide_mul (a := 8) (b := 40) (by omega) (by omega) (by decide) (by decide) (by decide), _, _, rfl, rfl, ?_⟩
    refine ⟨_, rfl, _, rfl, _, _, rfl, rfl, wide_mul hx hf2 (by decide) (by decide) (by decide), _, _, rfl, rfl, _, rfl, _, rfl, _, _, rfl, rfl, wide_mul hy hf2 (by decide) (by decide) (by decide), sz60 (by simp), fun o no => q _ o (same_upd no) (.inl (.inl ?_))⟩
    rw [← hf]
    exact upd_same
def sp_point_of (K : PySem.W.Frag) : Sp := fun vs H Q _ => ∃ (a b c : Addr) (t : T) (ss rs : List Int), vs = [.ref a, .ref b, .ref c] ∧ SqT K H a (vi t.sch) ∧ SqT K H b (ss.map V.int) ∧ SqT K H c (rs.map V.int) ∧ ss.length = t.size ∧ rs.length = t.size ∧ t.size ≤ 60 ∧ Lds ss ∧ Lds rs ∧ ∀ H' o, Same H H' → Dp K H' (.ref o) (dP (pnt ss rs t)) → Q (.ref o) H'
theorem ok_point_of (TX : Tx K mg) : FnOk P w K mg base CX0 8 TX.a_point_of TX.fd_point_of ["schedule", "sizes", "reads"] (sp_point_of K) := by
  refine TX.f_point_of.ok sc_point_of (fun vs H Q E h => ?_) (fun cdv A outer s H vs Q E hr h => ?_)
  · obtain ⟨a, b, c, t, ss, rs, rfl, _⟩ := h; rfl
  · obtain ⟨a, b, c, t, ss, rs, rfl, hA, hB, hC, l1, l2, hz, dS, dR, q⟩ := h
    refine ⟨_, (pss_one (ps_ret (pe_tup (pa_cons (pe_call (ok_write_work TX) (hr.mono (by decide)) (by rfl) TX.g_write_work TX.f_write_work.kp TX.bd_write_work .nil pass0 (pa_cons (pv 0) (pa_cons (pv 1) pa_nil))) (pa_cons (pe_call (ok_read_work TX) (hr.mono (by decide)) (by rfl) TX.g_read_work TX.f_read_work.kp TX.bd_read_work .nil pass0 (pa_cons (pv 0) (pa_cons (pv 2) pa_nil))) pa_nil))))), ?_⟩
    refine ⟨.ref a, rfl, .ref b, rfl, a, b, t, ss, rfl, hA, hB, l1, hz, dS, fun H1 s1 => ?_⟩
    refine ⟨.ref a, rfl, .ref c, rfl, a, c, t, rs, rfl, Same.tup s1 hA, Same.tup s1 hC, l2, hz, dR, fun H2 s2 => ⟨sz60 (by simp), fun o no => ?_⟩⟩
    exact q _ o ((s1.trans s2).trans (same_upd no)) (dp_dP (.inl (.inl upd_same)))
def sp_best_at (K : PySem.W.Frag) : Sp := fun vs H Q _ => ∃ (d a b : Addr) (x y : Int) (ss rs : List Int), vs = [.ref d, .ref a, .ref b] ∧ SqT K H d [.int x, .int y] ∧ SqT K H a (ss.map V.int) ∧ SqT K H b (rs.map V.int) ∧ x.natAbs < 2 ^ 100 ∧ y.natAbs < 2 ^ 100 ∧ ss.length = rs.length ∧ ss.length ≤ 60 ∧ Lds ss ∧ Lds rs ∧ ∀ H' o, Same H H' → Dp K H' (.ref o) (dE ss rs (bst ss rs x y)) → Q (.ref o) H'
theorem ok_best_at (TX : Tx K mg) : FnOk P w K mg base CX0 66 TX.a_best_at TX.fd_best_at ["direction", "sizes", "reads"] (sp_best_at K) := by
  refine TX.f_best_at.ok sc_best_at (fun vs H Q E h => ?_) (fun cdv A outer s H vs Q E hr h => ?_)
  · obtain ⟨d, a, b, x, y, ss, rs, rfl, _⟩ := h; rfl
  · obtain ⟨d, a, b, x, y, ss, rs, rfl, hD, hA, hB, hx, hy, he, hz, dS, dR, q⟩ := h
    refine ⟨_, (pss_cons (ps_asg (pv 0) (pg_tup rfl (pgs_cons (pg_name (i := 3) sc_best_at.nd rfl (.inl rfl)) (pgs_cons (pg_name (i := 4) sc_best_at.nd rfl (.inl rfl)) pgs_nil))))
      (pss_cons (ps_asg (pe_call (ok_least_of TX) (hr.mono (by decide)) (by rfl) TX.g_least_of TX.f_least_of.kp TX.bd_least_of .nil pass0 (pa_cons (pe_call (ok_scaled TX) (hr.mono (by decide)) (by rfl) TX.g_scaled TX.f_scaled.kp TX.bd_scaled .nil pass0 (pa_cons (pv 1) (pa_cons (pv 3) pa_nil))) (pa_cons (pe_call (ok_scaled TX) (hr.mono (by decide)) (by rfl) TX.g_scaled TX.f_scaled.kp TX.bd_scaled .nil pass0 (pa_cons (pv 2) (pa_cons (pv 4) pa_nil))) pa_nil))) (pg_tup rfl (pgs_cons (pg_name (i := 5) sc_best_at.nd rfl (.inl rfl)) (pgs_cons (pg_name (i := 6) sc_best_at.nd rfl (.inl rfl)) pgs_nil))))
      (pss_one (ps_ret (pe_tup (pa_cons (pe_call (ok_point_of TX) (hr.mono (by decide)) (by rfl) TX.g_point_of TX.f_point_of.kp TX.bd_point_of .nil pass0 (pa_cons (pv 6) (pa_cons (pv 1) (pa_cons (pv 2) pa_nil)))) (pa_cons (pv 6) pa_nil))))))), ?_⟩
    refine ⟨.ref d, rfl, d, _, rfl, hD, rfl, _, _, rfl, _, [], rfl, rfl, ?_⟩
    refine ⟨.ref a, rfl, _, rfl, a, ss, x, rfl, hA, dS, hz, hx, fun H1 p1 s1 h1 => ?_⟩
    refine ⟨.ref b, rfl, _, rfl, b, rs, y, rfl, Same.tup s1 hB, dR, by omega, hy, fun H2 p2 s2 h2 => ?_⟩
    refine ⟨p1, p2, _, _, rfl, Same.tup s2 h1, h2, by simp [he], by simp; omega, fun H3 p r s3 g1 g2 => ?_⟩
    refine ⟨p, _, rfl, g1, rfl, _, _, rfl, _, [], rfl, rfl, ?_⟩
    rw [List.length_map] at g2
    have hsz := bst_size ss rs x y
    have s13 := (s1.trans s2).trans s3
    refine ⟨.ref r, rfl, .ref a, rfl, .ref b, rfl, r, a, b, bst ss rs x y, ss, rs, rfl, g2, Same.tup s13 hA, Same.tup s13 hB, by omega, by omega, by omega, dS, dR, fun H4 o s4 ho => ?_⟩
    refine ⟨.ref r, rfl, sz60 (by simp), fun o2 no2 => ?_⟩
    have s5 := same_upd (o := .tup [V.ref o, V.ref r]) no2
    refine q _ o2 ((s13.trans s4).trans s5) (.tup (.inl (.inl upd_same)) (.cons (Dp.same s5 ho) (.cons ?_ .nil)))
    exact dp_tup (by rw [← vi_ci]; exact Same.tup (s4.trans s5) g2)
end
theorem dot_scale (c : Int) : ∀ (xs : List Int) (ns : List Nat), dot (xs.map (c * ·)) ns = c * dot xs ns
  | [], ns => by simp [dot]
  | x :: xs, [] => by simp [dot]
  | x :: xs, n :: ns => by rw [List.map_cons, dot_cons, dot_cons, dot_scale c xs ns, Int.mul_add, Int.mul_assoc]
theorem dot_cap : ∀ {xs : List Int} {ns : List Nat} {c : Nat}, (∀ x, x ∈ xs → 0 ≤ x) → (∀ n, n ∈ ns → n ≤ c) → 0 ≤ dot xs ns ∧ dot xs ns ≤ (c : Int) * xs.sum
  | [], ns, c, _, _ => by simp [dot]
  | x :: xs, [], c, h, _ => by
    have : 0 ≤ (x :: xs).sum := by
      have key : ∀ l : List Int, (∀ x, x ∈ l → 0 ≤ x) → 0 ≤ l.sum := by
        intro l
        induction l with
        | nil => intro _; simp
        | cons y l ih => intro h; rw [List.sum_cons]; have := h y (List.mem_cons_self ..); have := ih fun z hz => h z (List.mem_cons_of_mem _ hz); omega
      exact key _ h
    have := Int.mul_nonneg (by omega : (0 : Int) ≤ c) this
    simp only [dot, List.zipWith_nil_right, List.sum_nil]; omega
  | x :: xs, n :: ns, c, h, h2 => by
    have ih := dot_cap (xs := xs) (ns := ns) (c := c) (fun y hy => h y (List.mem_cons_of_mem _ hy)) fun m hm => h2 m (List.mem_cons_of_mem _ hm)
    have x0 := h x (List.mem_cons_self ..)
    have n0 := h2 n (List.mem_cons_self ..)
    have e1 := Int.mul_le_mul_of_nonneg_left (by omega : (n : Int) ≤ c) x0
    have e2 := Int.mul_nonneg x0 (by omega : (0 : Int) ≤ n)
    rw [dot_cons, List.sum_cons, Int.mul_add, Int.mul_comm (c : Int) x]
    omega
/-- the points of all trees of the loads' size -/
def SP (ss rs : List Int) : Pt → Prop := fun p => ∃ t : T, t.size = ss.length ∧ p = pnt ss rs t
def beP (ss rs : List Int) (x y : Int) : Pt := pnt ss rs (bst ss rs x y)
theorem lds_nn {ss : List Int} (h : Lds ss) : ∀ x, x ∈ ss → 0 ≤ x := fun x hx => (h x hx).1
theorem vlu_wk {ss rs : List Int} {t : T} (h1 : t.size = ss.length) (he : ss.length = rs.length) (x y : Int) : vlu x y (pnt ss rs t) = wkI (ss.map (x * ·)) (rs.map (y * ·)) 0 t := by
  rw [wkF_I (by rw [List.length_map, h1]) (by rw [List.length_map, h1, he]), wkF, dot_scale, dot_scale]
  rfl
theorem bst_le {ss rs : List Int} (he : ss.length = rs.length) (x y : Int) {t : T} (ht : t.size = ss.length) : vlu x y (pnt ss rs (bst ss rs x y)) ≤ vlu x y (pnt ss rs t) := by
  rw [vlu_wk (bst_size ..) he, vlu_wk ht he]
  unfold bst
  rw [wk_lt _ _ (by simp) (by simp [he])]
  have := wk_via (ss := ss.map (x * ·)) (rs := rs.map (y * ·)) t 0 (by simp [ht]) (by simp [ht, he])
  rw [ht] at this
  exact this
theorem best_of {ss rs : List Int} (hS : Lds ss) (hR : Lds rs) (he : ss.length = rs.length) : Best (SP ss rs) (beP ss rs) (fac ss) (fac rs) where
  mem := fun x y _ _ => ⟨_, bst_size .., rfl⟩
  le := fun x y _ _ z ⟨t, ht, e⟩ => by rw [e]; exact bst_le he x y ht
  b1 := fun z ⟨t, ht, e⟩ => by rw [e]; exact dot_cap (lds_nn hS) fun n hn => by have := wr_le t n hn; omega
  b2 := fun z ⟨t, ht, e⟩ => by rw [e]; exact dot_cap (lds_nn hR) fun n hn => by have := rc_le t n hn; omega
/-- the loop over trees: what was found, the newest first; what waits, the nearest first -/
inductive SimT (ss rs : List Int) (B : Nat) : Nat → List T → List T → List T → Prop
  | done {m : Nat} {fr : List T} : fr.length ≤ B → SimT ss rs B m fr [] fr.reverse
  | pop {m : Nat} {n w : T} {fr ws res : List T} : (n :: fr).length + (w :: ws).length ≤ B → pnt ss rs (bst ss rs (tilt ss (pnt ss rs n) (pnt ss rs w)).1 (tilt ss (pnt ss rs n) (pnt ss rs w)).2) = pnt ss rs n → SimT ss rs B m (w :: n :: fr) ws res → SimT ss rs B (m + 1) (n :: fr) (w :: ws) res
  | push {m : Nat} {n w : T} {fr ws res : List T} : (n :: fr).length + (w :: ws).length < B → pnt ss rs (bst ss rs (tilt ss (pnt ss rs n) (pnt ss rs w)).1 (tilt ss (pnt ss rs n) (pnt ss rs w)).2) ≠ pnt ss rs n → SimT ss rs B m (n :: fr) (bst ss rs (tilt ss (pnt ss rs n) (pnt ss rs w)).1 (tilt ss (pnt ss rs n) (pnt ss rs w)).2 :: w :: ws) res → SimT ss rs B (m + 1) (n :: fr) (w :: ws) res
def CrnT (ss rs : List Int) (B : Nat) (res : List T) : Prop :=
  (pnt ss rs (bst ss rs (2 + fac rs) 1) = pnt ss rs (bst ss rs 1 (2 + fac ss)) ∧ res = [bst ss rs (2 + fac rs) 1]) ∨
    (pnt ss rs (bst ss rs (2 + fac rs) 1) ≠ pnt ss rs (bst ss rs 1 (2 + fac ss)) ∧ SimT ss rs B (2 ^ 44) [bst ss rs (2 + fac rs) 1] [bst ss rs 1 (2 + fac ss)] res)
theorem simT_of {ss rs : List Int} {B m : Nat} {ps qs res : List Pt} (h : SimP (beP ss rs) (fac ss) B m ps qs res) :
    ∀ fr ws : List T, fr.map (pnt ss rs) = ps → ws.map (pnt ss rs) = qs → ∃ r, SimT ss rs B m fr ws r ∧ r.map (pnt ss rs) = res := by
  induction h with
  | done hb =>
    intro fr ws e1 e2
    cases List.map_eq_nil_iff.mp e2
    subst e1
    exact ⟨fr.reverse, .done (by simpa using hb), by rw [List.map_reverse]⟩
  | pop hb hp _ ih =>
    intro fr ws e1 e2
    cases fr with
    | nil => cases e1
    | cons n fr =>
      cases ws with
      | nil => cases e2
      | cons w ws =>
        rw [List.map_cons] at e1 e2
        injection e1 with a1 a2
        injection e2 with a3 a4
        subst a1 a2 a3 a4
        obtain ⟨r, r1, r2⟩ := ih (w :: n :: fr) ws rfl rfl
        exact ⟨r, .pop (by simpa using hb) hp r1, r2⟩
  | push hb hp _ ih =>
    intro fr ws e1 e2
    cases fr with
    | nil => cases e1
    | cons n fr =>
      cases ws with
      | nil => cases e2
      | cons w ws =>
        rw [List.map_cons] at e1 e2
        injection e1 with a1 a2
        injection e2 with a3 a4
        subst a1 a2 a3 a4
        obtain ⟨r, r1, r2⟩ := ih (n :: fr) (_ :: w :: ws) rfl rfl
        exact ⟨r, .push (by simpa using hb) hp r1, r2⟩
theorem crn_hull {ss rs : List Int} (hS : Lds ss) (hR : Lds rs) (he : ss.length = rs.length) (hz : ss.length ≤ 60) {B : Nat} (hc : Cap (SP ss rs) B) : ∃ res, CrnT ss rs B res ∧ Hul (SP ss rs) (res.map (pnt ss rs)) := by
  have fb := fac_bd hS hz
  obtain ⟨res, h1, h2⟩ := crn_ends (best_of hS hR he) hc ⟨_, bst ss rs 1 1, bst_size .., rfl⟩ (m := 2 ^ 44) (by
    have : ((2 ^ 44 : Nat) : Int) = 17592186044416 := by decide
    omega)
  rcases h1 with ⟨e, rfl⟩ | ⟨e, h1⟩
  · exact ⟨_, .inl ⟨e, rfl⟩, h2⟩
  · obtain ⟨r, r1, r2⟩ := simT_of h1 [bst ss rs (2 + fac rs) 1] [bst ss rs 1 (2 + fac ss)] rfl rfl
    subst r2
    exact ⟨r, .inr ⟨e, r1⟩, h2⟩
theorem sp_nn {ss rs : List Int} (hS : Lds ss) (hR : Lds rs) (he : ss.length = rs.length) : ∀ p, SP ss rs p → 0 ≤ p.1 ∧ 0 ≤ p.2 := fun p hp => ⟨((best_of hS hR he).b1 p hp).1, ((best_of hS hR he).b2 p hp).1⟩
section
variable {P : Program} {w : World} {K : PySem.W.Frag} {mg : Str → Option Value} {base : Heap}
theorem szB {n : Nat} (h : n < 16000000) : n < sizeLine := Nat.lt_of_lt_of_le h (by decide)
theorem szB' {n : Nat} (h : n ≤ 16000000) : n ≤ sizeLine := Nat.le_trans h (by decide)
theorem dE_inv {K : PySem.W.Frag} {H : Hp} {v : V} {ss rs : List Int} {t : T} (h : Dp K H v (dE ss rs t)) : ∃ a b c, v = .ref a ∧ SqT K H a [.ref b, .ref c] ∧ SqT K H b [.int (pnt ss rs t).1, .int (pnt ss rs t).2] := by
  obtain ⟨a, xs, rfl, hS, hA⟩ := Dp.tupInv h
  cases hA with
  | cons h1 h2 =>
    cases h2 with
    | cons h3 h4 =>
      cases h4
      obtain ⟨b, rfl, hB⟩ := Dp.intsInv (ns := [(pnt ss rs t).1, (pnt ss rs t).2]) h1
      obtain ⟨c, rfl, _⟩ := Dp.intsInv h3
      exact ⟨a, b, c, rfl, hS, hB⟩
theorem dps {ss rs : List Int} {K : PySem.W.Frag} {H : Hp} {us : List V} {fr : List T} {n : T} (h : DpAll K H us ((n :: fr).reverse.map (dE ss rs))) : ∃ us' v, us = us' ++ [v] ∧ DpAll K H us' (fr.reverse.map (dE ss rs)) ∧ Dp K H v (dE ss rs n) := by
  rw [List.reverse_cons, List.map_append] at h
  exact DpAll.snoc h
theorem tf_all (ss rs : List Int) (l : List T) : ∀ d, d ∈ l.map (dE ss rs) → Tf d := fun d h => by
  obtain ⟨t, _, rfl⟩ := List.mem_map.mp h
  exact tf_dE ss rs t
def sp_corners_with_schedules (K : PySem.W.Frag) : Sp := fun vs H Q _ => ∃ (a b : Addr) (ss rs : List Int) (res : List T) (B : Nat), vs = [.ref a, .ref b] ∧ SqT K H a (ss.map V.int) ∧ SqT K H b (rs.map V.int) ∧ ss.length = rs.length ∧ ss.length ≤ 60 ∧ Lds ss ∧ Lds rs ∧ CrnT ss rs B res ∧ B ≤ 16000000 ∧ ∀ H' o us, Same H H' → H' o = some (.lst us) → DpAll K H' us (res.map (dE ss rs)) → Q (.ref o) H'
theorem ok_corners_with_schedules (TX : Tx K mg) : FnOk P w K mg base CX0 67 TX.a_corners_with_schedules TX.fd_corners_with_schedules ["sizes", "reads"] (sp_corners_with_schedules K) := by
  refine TX.f_corners_with_schedules.ok sc_corners_with_schedules (fun vs H Q E h => ?_) (fun cdv A outer s H vs Q E hr h => ?_)
  · obtain ⟨a, b, ss, rs, res, B, rfl, _⟩ := h; rfl
  · obtain ⟨a, b, ss, rs, res, B, rfl, hA, hB, he, hz, dS, dR, hres, hBl, q⟩ := h
    refine ⟨_, (pss_cons (ps_set (i := 2) sc_corners_with_schedules.nd rfl (.inl rfl) (pe_call (ok_best_at TX) (hr.mono (by decide)) (by rfl) TX.g_best_at TX.f_best_at.kp TX.bd_best_at .nil pass0 (pa_cons (pe_call (ok_first_direction TX) (hr.mono (by decide)) (by rfl) TX.g_first_direction TX.f_first_direction.kp TX.bd_first_direction .nil pass0 (pa_cons (pv 1) pa_nil)) (pa_cons (pv 0) (pa_cons (pv 1) pa_nil)))))
      (pss_cons (ps_set (i := 3) sc_corners_with_schedules.nd rfl (.inl rfl) (pe_call (ok_best_at TX) (hr.mono (by decide)) (by rfl) TX.g_best_at TX.f_best_at.kp TX.bd_best_at .nil pass0 (pa_cons (pe_call (ok_last_direction TX) (hr.mono (by decide)) (by rfl) TX.g_last_direction TX.f_last_direction.kp TX.bd_last_direction .nil pass0 (pa_cons (pv 0) pa_nil)) (pa_cons (pv 0) (pa_cons (pv 1) pa_nil)))))
      (pss_cons (ps_if (pt_cmpR (op_eqD hr.units) (pe_ix (k_ixT (K := K) rfl) (pv 2) pe_int (fun _ _ => rfl)) (pe_ix (k_ixT (K := K) rfl) (pv 3) pe_int (fun _ _ => rfl)) (nomark _))
        (pss_one (ps_ret (pe_lst (pa_cons (pv 2) pa_nil))))
        pss_nil)
      (pss_cons (ps_set (i := 4) sc_corners_with_schedules.nd rfl (.inl rfl) (pe_lst (pa_cons (pv 2) pa_nil)))
      (pss_cons (ps_set (i := 5) sc_corners_with_schedules.nd rfl (.inl rfl) (pe_lst (pa_cons (pv 3) pa_nil)))
      (pss_cons (ps_while PassesOwn.never (pt_truth (pv 5) (by intro _; rfl))
        (pss_cons (ps_set (i := 6) sc_corners_with_schedules.nd rfl (.inl rfl) (pe_ix (k_ixT (K := K) rfl) (pe_ix (k_ixL (K := K) rfl) (pv 4) (pe_un un_neg pe_int) (fun _ _ => rfl)) pe_int (fun _ _ => rfl)))
        (pss_cons (ps_set (i := 7) sc_corners_with_schedules.nd rfl (.inl rfl) (pe_call (ok_best_at TX) (hr.mono (by decide)) (by rfl) TX.g_best_at TX.f_best_at.kp TX.bd_best_at .nil pass0 (pa_cons (pe_call (ok_tilted TX) (hr.mono (by decide)) (by rfl) TX.g_tilted TX.f_tilted.kp TX.bd_tilted .nil pass0 (pa_cons (pe_call (ok_direction_between TX) (hr.mono (by decide)) (by rfl) TX.g_direction_between TX.f_direction_between.kp TX.bd_direction_between .nil pass0 (pa_cons (pv 6) (pa_cons (pe_ix (k_ixT (K := K) rfl) (pe_ix (k_ixL (K := K) rfl) (pv 5) (pe_un un_neg pe_int) (fun _ _ => rfl)) pe_int (fun _ _ => rfl)) pa_nil))) (pa_cons (pv 0) pa_nil))) (pa_cons (pv 0) (pa_cons (pv 1) pa_nil)))))
        (pss_one (ps_if (pt_cmpR (op_eqD hr.units) (pe_ix (k_ixT (K := K) rfl) (pv 7) pe_int (fun _ _ => rfl)) (pv 6) (nomark _))
          (pss_one (ps_expr (pe_bm PySem.F.plainAttrs_list PySem.F.slot_list_append PySem.F.type_list_append mt_append (pv 4) (pa_cons (pe_bm0 PySem.F.plainAttrs_list PySem.F.slot_list_pop PySem.F.type_list_pop mt_pop (pv 5)) pa_nil))))
          (pss_one (ps_expr (pe_bm PySem.F.plainAttrs_list PySem.F.slot_list_append PySem.F.type_list_append mt_append (pv 5) (pa_cons (pv 7) pa_nil)))))))))
      (pss_one (ps_ret (pv 4))))))))), ?_⟩
    have bS := fac_bd dS hz
    have bR := fac_bd dR (by omega)
    refine ⟨.ref b, rfl, b, rs, rfl, hB, dR, by omega, fun H1 d1 s1 h1 => ⟨.ref a, rfl, .ref b, rfl, ?_⟩⟩
    refine ⟨d1, a, b, _, _, ss, rs, rfl, h1, Same.tup s1 hA, Same.tup s1 hB, by omega, by decide, he, hz, dS, dR, fun H2 F s2 hF => ?_⟩
    have s12 := s1.trans s2
    refine ⟨.ref a, rfl, a, ss, rfl, Same.tup s12 hA, dS, by omega, fun H3 d3 s3 h3 => ⟨.ref a, rfl, .ref b, rfl, ?_⟩⟩
    have s13 := s12.trans s3
    refine ⟨d3, a, b, _, _, ss, rs, rfl, h3, Same.tup s13 hA, Same.tup s13 hB, by decide, by omega, he, hz, dS, dR, fun H4 Lr s4 hL => ?_⟩
    have s14 := s13.trans s4
    have hF4 := Dp.same (s3.trans s4) hF
    obtain ⟨F', fb, fc, e, f1, f2⟩ := dE_inv hF4
    cases e
    obtain ⟨L', lb, lc, e, l1, l2⟩ := dE_inv hL
    cases e
    refine ⟨.ref F, rfl, F, _, 0, _, rfl, rfl, f1, rfl, .ref Lr, rfl, Lr, _, 0, _, rfl, rfl, l1, rfl, ?_⟩
    refine eq_dP (dp_dP f2) (dp_dP l2) ⟨_, rfl, ?_⟩
    rcases hres with ⟨hc, rfl⟩ | ⟨hc, hres⟩
    · skip
      refine iteB1 (decide_eq_true hc) ⟨.ref F, rfl, sz60 (by simp), fun o no => ?_⟩
      have s5 := same_upd (o := .lst [V.ref F]) no
      exact q _ o _ (s14.trans s5) upd_same (.cons (Dp.same s5 hF4) .nil)
    · refine iteB0 (decide_eq_false hc) ⟨.ref F, rfl, sz60 (by simp), fun fo nf => ?_⟩
      have s5 := same_upd (o := .lst [V.ref F]) nf
      refine ⟨.ref Lr, rfl, sz60 (by simp), fun wo nw => ?_⟩
      have s6 := same_upd (o := .lst [V.ref Lr]) nw
      have nfH : H fo = none := s14.free nf
      have nwH : H wo = none := (s14.trans s5).free nw
      have nwf : wo ≠ fo := fun e => by rw [e, upd_same] at nw; cases nw
      refine ⟨fun m σ H' => ∃ (fr ws : List T) (us vs : List V) (y6 y7 : Option V), σ = [some (.ref a), some (.ref b), some (.ref F), some (.ref Lr), some (.ref fo), some (.ref wo), y6, y7] ∧ Same H H' ∧ H' fo = some (.lst us) ∧ DpAll K H' us (fr.reverse.map (dE ss rs)) ∧ H' wo = some (.lst vs) ∧ DpAll K H' vs (ws.reverse.map (dE ss rs)) ∧ SimT ss rs B m fr ws res ∧ fr ≠ [] ∧ (∀ t, t ∈ fr → t.size ≤ 60) ∧ (∀ t, t ∈ ws → t.size ≤ 60) ∧ True,
        ⟨2 ^ 44, [bst ss rs (2 + fac rs) 1], [bst ss rs 1 (2 + fac ss)], [.ref F], [.ref Lr], none, none, rfl, (s14.trans s5).trans s6, s6 _ _ upd_same, .cons (Dp.same (s5.trans s6) hF4) .nil, upd_same, .cons (Dp.same (s5.trans s6) hL) .nil, hres, by simp, fun t ht => by rw [List.mem_singleton.mp ht, bst_size]; exact hz, fun t ht => by rw [List.mem_singleton.mp ht, bst_size]; exact hz, trivial⟩, ?_⟩
      rintro m σ H7 ⟨fr, ws, us, vs, y6, y7, rfl, s7, g1, g2, g3, g4, g5, g6, g7, g8, g9⟩
      cases ws with
      | nil =>
        cases g4
        have hr : fr.reverse = res := by cases g5; rfl
        subst hr
        refine ⟨_, rfl, false, (.inl ⟨[], .inl (.inl g3), rfl⟩), iteF ?_⟩
        exact ⟨_, rfl, q _ fo us s7 g1 g2⟩
      | cons w0 ws =>
        cases fr with
        | nil => exact absurd rfl g6
        | cons n0 fr =>
          cases m with
          | zero => cases g5
          | succ m =>
            obtain ⟨us', fv, rfl, hus, hfv⟩ := dps g2
            obtain ⟨vs', wv, rfl, hvs, hwv⟩ := dps g4
            obtain ⟨na, nb, nc, rfl, n1, n2⟩ := dE_inv hfv
            obtain ⟨wa, wb, wc, rfl, w1, w2⟩ := dE_inv hwv
            have hne : (vs' ++ [V.ref wa]).isEmpty = false := by simp
            refine ⟨_, rfl, true, (.inl ⟨_, .inl (.inl g3), by rw [hne]; rfl⟩), iteT ⟨_, fun _ _ h => h, ?_⟩⟩
            refine ⟨.ref fo, rfl, _, rfl, fo, _, -1, _, rfl, rfl, .inl (.inl g1), atI_last _ _, na, _, 0, _, rfl, rfl, n1, rfl, ?_⟩
            refine ⟨_, rfl, .ref wo, rfl, _, rfl, wo, _, -1, _, rfl, rfl, .inl (.inl g3), atI_last _ _, wa, _, 0, _, rfl, rfl, w1, rfl, ?_⟩
            refine ⟨nb, wb, pnt ss rs n0, pnt ss rs w0, rfl, n2, w2, fun H8 d8 s8 h8 => ?_⟩
            have bn := pnt_bd (t := n0) dS dR hz (by omega) (g7 n0 (List.mem_cons_self ..))
            have bw := pnt_bd (t := w0) dS dR hz (by omega) (g8 w0 (List.mem_cons_self ..))
            refine ⟨.ref a, rfl, d8, a, _, _, ss, rfl, h8, Same.tup (s7.trans s8) hA, dS, hz, by omega, by omega, fun H9 d9 s9 h9 => ?_⟩
            have s79 := (s7.trans s8).trans s9
            refine ⟨.ref a, rfl, .ref b, rfl, d9, a, b, _, _, ss, rs, rfl, h9, Same.tup s79 hA, Same.tup s79 hB, ?_, ?_, he, hz, dS, dR, fun H10 bo s10 hbo => ?_⟩
            · have h1 := wide_lt (i := (pnt ss rs n0).2 - (pnt ss rs w0).2) (j := 1 + fac ss) (a := 50) (b := 48) (by omega) (by omega)
              omega
            · have h1 := wide_lt (i := (pnt ss rs w0).1 - (pnt ss rs n0).1) (j := 1 + fac ss) (a := 50) (b := 48) (by omega) (by omega)
              omega
            have s810 := (s8.trans s9).trans s10
            obtain ⟨ba, bb, bc, e, b1, b2⟩ := dE_inv hbo
            cases e
            refine ⟨.ref bo, rfl, bo, _, 0, _, rfl, rfl, b1, rfl, _, rfl, ?_⟩
            refine eq_dP (dp_dP b2) (dp_dP (Same.tup s810 n2)) ⟨_, rfl, ?_⟩
            have fo10 := s810 _ _ g1
            have wo10 := s810 _ _ g3
            have l1 := DpAll.len hus
            have l2 := DpAll.len hvs
            rw [List.length_map, List.length_reverse] at l1 l2
            have sz := bst_size ss rs (tilt ss (pnt ss rs n0) (pnt ss rs w0)).1 (tilt ss (pnt ss rs n0) (pnt ss rs w0)).2
            cases g5 with
            | pop hcap hb g5' =>
              simp only [List.length_cons] at hcap
              refine iteB1 (decide_eq_true hb) ?_
              refine ⟨.ref fo, rfl, .inl ⟨rfl, _, .inl (.inl fo10)⟩, .ref wo, rfl, .inl ⟨rfl, _, .inl (.inl wo10)⟩, wo, _, .ref wa, rfl, rfl, wo10, by simp, fo, us' ++ [V.ref na], _, rfl, rfl, ?_, ?_, ?_⟩
              · rw [upd_ne nwf.symm]; exact fo10
              · exact szB (by simp; omega)
              · have edl : (vs' ++ [V.ref wa]).dropLast = vs' := List.dropLast_concat
                have nf10 : (upd H10 wo (.lst (vs' ++ [V.ref wa]).dropLast)) fo = some (.lst (us' ++ [V.ref na])) := by rw [upd_ne nwf.symm]; exact fo10
                have kp1 : Keep K H10 (upd H10 wo (.lst (vs' ++ [V.ref wa]).dropLast)) := But.keep But.upd wo10
                have kp2 : Keep K (upd H10 wo (.lst (vs' ++ [V.ref wa]).dropLast)) (upd (upd H10 wo (.lst (vs' ++ [V.ref wa]).dropLast)) fo (.lst (us' ++ [V.ref na] ++ [V.ref wa]))) := But.keep But.upd nf10
                have kp := kp1.trans kp2
                refine ⟨m, by omega, w0 :: n0 :: fr, ws, us' ++ [V.ref na] ++ [V.ref wa], vs', _, _, rfl, Same.mut (Same.mut (s7.trans s810) nwH) nfH, upd_same, ?_, ?_, ?_, g5', by simp, ?_, fun t ht => g8 t (List.mem_cons_of_mem _ ht), trivial⟩
                · rw [List.reverse_cons, List.map_append]
                  refine DpAll.keep kp (fun d hd => ?_) (DpAll.append (DpAll.same s810 g2) (.cons (Dp.same s810 hwv) .nil))
                  rw [← List.map_append] at hd
                  exact tf_all _ _ _ d hd
                · rw [upd_ne nwf, upd_same, edl]
                · exact DpAll.keep kp (tf_all _ _ _) (DpAll.same s810 hvs)
                · intro t ht
                  rcases List.mem_cons.mp ht with rfl | ht
                  · exact g8 _ (List.mem_cons_self ..)
                  · exact g7 t ht
            | push hcap hb g5' =>
              simp only [List.length_cons] at hcap
              refine iteB0 (decide_eq_false hb) ?_
              refine ⟨.ref wo, rfl, .inl ⟨rfl, _, .inl (.inl wo10)⟩, _, rfl, wo, _, _, rfl, rfl, wo10, szB (by simp; omega), ?_⟩
              have kp : Keep K H10 (upd H10 wo (.lst (vs' ++ [V.ref wa] ++ [V.ref bo]))) := But.keep But.upd wo10
              refine ⟨m, by omega, n0 :: fr, bst ss rs (tilt ss (pnt ss rs n0) (pnt ss rs w0)).1 (tilt ss (pnt ss rs n0) (pnt ss rs w0)).2 :: w0 :: ws, us' ++ [V.ref na], vs' ++ [V.ref wa] ++ [V.ref bo], _, _, rfl, Same.mut (s7.trans s810) nwH, ?_, ?_, upd_same, ?_, g5', by simp, g7, ?_, trivial⟩
              · rw [upd_ne nwf.symm]; exact fo10
              · exact DpAll.keep kp (tf_all _ _ _) (DpAll.same s810 g2)
              · rw [List.reverse_cons, List.map_append]
                refine DpAll.keep kp (fun d hd => ?_) (DpAll.append (DpAll.same s810 g4) (.cons hbo .nil))
                rw [← List.map_append] at hd
                exact tf_all _ _ _ d hd
              · intro t ht
                rcases List.mem_cons.mp ht with rfl | ht
                · omega
                · exact g8 t ht
def sp_corners (K : PySem.W.Frag) : Sp := fun vs H Q _ => ∃ (a b : Addr) (ss rs : List Int) (res : List T) (B : Nat), vs = [.ref a, .ref b] ∧ SqT K H a (ss.map V.int) ∧ SqT K H b (rs.map V.int) ∧ ss.length = rs.length ∧ ss.length ≤ 24 ∧ Lds ss ∧ Lds rs ∧ CrnT ss rs B res ∧ B ≤ 16000000 ∧ res.length ≤ B ∧ ∀ H' o, Same H H' → Dp K H' (.ref o) (.tuple (res.map fun t => dP (pnt ss rs t))) → Q (.ref o) H'
theorem ok_corners (TX : Tx K mg) : FnOk P w K mg base CX0 68 TX.a_corners TX.fd_corners ["sizes", "reads"] (sp_corners K) := by
  refine TX.f_corners.ok sc_corners (fun vs H Q E h => ?_) (fun cdv A outer s H vs Q E hr h => ?_)
  · obtain ⟨a, b, ss, rs, res, B, rfl, _⟩ := h; rfl
  · obtain ⟨a, b, ss, rs, res, B, rfl, hA, hB, he, hz, dS, dR, hres, hBl, hrl, q⟩ := h
    refine ⟨_, (pss_cons (ps_expr (pe_call (ok_check_loads TX) (hr.mono (by decide)) (by rfl) TX.g_check_loads TX.f_check_loads.kp TX.bd_check_loads .nil pass0 (pa_cons (pv 0) (pa_cons (pv 1) (pa_cons (pe_glob (v := .int (24)) (by rfl) TX.c_MOST_PRICED_FLUSHES ⟨_, rfl⟩) pa_nil)))))
      (pss_one (ps_ret (pe_callTy (T := "tuple") (k_tupOf (K := K) rfl) (by rfl) TX.b_tuple (by decide +kernel) (pa_cons (pe_lc (own := [("point", 2), ("schedule", 3)]) (by rfl) sc_corners.nd (k_piL (K := K) rfl (pe_call (ok_corners_with_schedules TX) (hr.mono (by decide)) (by rfl) TX.g_corners_with_schedules TX.f_corners_with_schedules.kp TX.bd_corners_with_schedules .nil pass0 (pa_cons (pv 0) (pa_cons (pv 1) pa_nil)))) (blkOk_by (own := [("point", 2), ("schedule", 3)]) (N := N_corners) (sc := defScope s_corners) (by decide +kernel)) (fun _ _ _ _ _ => (k_pgT2 (K := K) rfl rfl (pg_name (i := 2) sc_corners.nd rfl (Or.inl rfl)) (pg_name (i := 3) sc_corners.nd rfl (Or.inl rfl)))) (fun _ _ _ _ _ => pts_nil) (fun _ _ _ _ _ => (pv 2))) pa_nil))))), ?_⟩
    refine ⟨.ref a, rfl, .ref b, rfl, a, b, ss, rs, 24, rfl, hA, hB, dS, dR, he, by omega, by omega, fun H1 s1 => ?_⟩
    refine ⟨.ref a, rfl, .ref b, rfl, a, b, ss, rs, res, B, rfl, Same.tup s1 hA, Same.tup s1 hB, he, by omega, dS, dR, hres, hBl, fun H2 l us s2 hl hus => ?_⟩
    have hul := DpAll.len hus
    rw [List.length_map] at hul
    refine ⟨l, rfl, ⟨_, .inl (.inl hl)⟩, fun D nD => ?_⟩
    refine lc_allB (K := K) (walk_list (xs := us)) (res.map fun t => dP (pnt ss rs t)) (by rw [List.length_map, hul]) (fun d h => by obtain ⟨t, _, rfl⟩ := List.mem_map.mp h; exact tf_dP _) (szB' (by omega)) nD (fun H' s' => .inl (.inl (s' _ _ hl))) ?_ ?_ mono_pair (fun σ' H' Q Q' h => h _ _)
    · rintro i x Hx Hx' hi sx ⟨rfl, hx⟩ d hd R hR
      have hir : i < res.length := by omega
      rw [List.getElem?_map, List.getElem?_eq_getElem hir] at hd
      cases hd
      obtain ⟨v, hv, hD⟩ := DpAll.get (DpAll.same sx hus) (i := i) (d := dE ss rs res[i]) (by rw [List.getElem?_map, List.getElem?_eq_getElem hir]; rfl)
      rw [hx] at hv
      cases hv
      obtain ⟨p, pb, pc, rfl, h1, h2⟩ := dE_inv hD
      exact ⟨p, _, rfl, h1, rfl, _, _, rfl, _, _, rfl, rfl, rfl, rfl, _, rfl, hR _ _ (Same.refl _) (dp_dP h2)⟩
    · intro H5 acc s5 ha hA5
      exact ⟨D, _, rfl, .inl ⟨.inl (.inl ha), fun o no => q _ o (((s1.trans s2).trans s5).trans (same_upd no)) (.tup (.inl (.inl upd_same)) (DpAll.same (same_upd no) hA5))⟩⟩
end
section
variable {P : Program} {w : World} {K : PySem.W.Frag} {mg : Str → Option Value} {base : Heap}
def sp_work (K : PySem.W.Frag) : Sp := fun vs H Q _ => ∃ (a b c : Addr) (t : T) (ss rs : List Int), vs = [.ref a, .ref b, .ref c] ∧ SqT K H a (vi t.sch) ∧ SqT K H b (ss.map V.int) ∧ SqT K H c (rs.map V.int) ∧ ss.length = t.size ∧ rs.length = t.size ∧ t.size ≤ 60 ∧ Lds ss ∧ Lds rs ∧ ∀ H', Same H H' → Q (.int (dot ss t.wr + dot rs t.rc)) H'
theorem ok_work (TX : Tx K mg) : FnOk P w K mg base CX0 8 TX.a_work TX.fd_work ["schedule", "sizes", "reads"] (sp_work K) := by
  refine TX.f_work.ok sc_work (fun vs H Q E h => ?_) (fun cdv A outer s H vs Q E hr h => ?_)
  · obtain ⟨a, b, c, t, ss, rs, rfl, _⟩ := h; rfl
  · obtain ⟨a, b, c, t, ss, rs, rfl, hA, hB, hC, l1, l2, hz, dS, dR, q⟩ := h
    refine ⟨_, (pss_one (ps_ret (pe_op op_add (pe_call (ok_write_work TX) (hr.mono (by decide)) (by rfl) TX.g_write_work TX.f_write_work.kp TX.bd_write_work .nil pass0 (pa_cons (pv 0) (pa_cons (pv 1) pa_nil))) (pe_call (ok_read_work TX) (hr.mono (by decide)) (by rfl) TX.g_read_work TX.f_read_work.kp TX.bd_read_work .nil pass0 (pa_cons (pv 0) (pa_cons (pv 2) pa_nil)))))), ?_⟩
    refine ⟨.ref a, rfl, .ref b, rfl, a, b, t, ss, rfl, hA, hB, l1, hz, dS, fun H1 s1 => ?_⟩
    exact ⟨.ref a, rfl, .ref c, rfl, a, c, t, rs, rfl, Same.tup s1 hA, Same.tup s1 hC, l2, hz, dR, fun H2 s2 => ⟨_, _, rfl, rfl, q _ (s1.trans s2)⟩⟩
end
/-- the runs of a stack, as lists of their flushes; none of them is one of the lists of avoid -/
def Hld (H : Hp) (av : List Addr) (hs : List V) (l : List (Nat × Nat)) : Prop := hs.length = l.length ∧ ∀ (j : Nat) (p : Nat × Nat), l[j]? = some p → ∃ c : Addr, hs[j]? = some (V.ref c) ∧ c ∉ av ∧ H c = some (.lst (vi (seg p.1 p.2)))
theorem Hld.same {H H' : Hp} {av : List Addr} {hs : List V} {l : List (Nat × Nat)} (h : Hld H av hs l) (e : Same H H') : Hld H' av hs l :=
  ⟨h.1, fun j p hj => by obtain ⟨c, h1, h2, h3⟩ := h.2 j p hj; exact ⟨c, h1, h2, e _ _ h3⟩⟩
theorem Hld.upd {H : Hp} {av : List Addr} {hs : List V} {l : List (Nat × Nat)} {b : Addr} {o : HO} (h : Hld H av hs l) (hb : b ∈ av) : Hld (L2.upd H b o) av hs l :=
  ⟨h.1, fun j p hj => by
    obtain ⟨c, h1, h2, h3⟩ := h.2 j p hj
    refine ⟨c, h1, h2, ?_⟩
    rw [upd_ne (fun e : c = b => h2 (by rw [e]; exact hb))]; exact h3⟩
theorem Hld.take {H : Hp} {av : List Addr} {hs : List V} {l : List (Nat × Nat)} (h : Hld H av hs l) (n : Nat) : Hld H av (hs.take n) (l.take n) :=
  ⟨by rw [List.length_take, List.length_take, h.1], fun j p hj => by
    rw [List.getElem?_take] at hj
    split at hj
    · rename_i hlt
      obtain ⟨c, h1, h2, h3⟩ := h.2 j p hj
      exact ⟨c, by rw [List.getElem?_take, if_pos hlt]; exact h1, h2, h3⟩
    · cases hj⟩
theorem Hld.snoc {H : Hp} {av : List Addr} {hs : List V} {l : List (Nat × Nat)} {c : Addr} {p : Nat × Nat} (h : Hld H av hs l) (h2 : c ∉ av) (h3 : H c = some (.lst (vi (seg p.1 p.2)))) : Hld H av (hs ++ [.ref c]) (l ++ [p]) :=
  ⟨by simp [h.1], fun j q hj => by
    by_cases e : j < l.length
    · rw [List.getElem?_append_left e] at hj
      obtain ⟨c', k1, k2, k3⟩ := h.2 j q hj
      exact ⟨c', by rw [List.getElem?_append_left (by rw [h.1]; exact e)]; exact k1, k2, k3⟩
    · rw [List.getElem?_append_right (by omega)] at hj
      have e2 : j - l.length = 0 := by
        cases hk : j - l.length with
        | zero => rfl
        | succ k => rw [hk] at hj; simp at hj
      rw [e2] at hj
      cases hj
      exact ⟨c, by rw [List.getElem?_append_right (by rw [h.1]; omega), h.1, e2]; rfl, h2, h3⟩⟩
theorem not3 {c x y z : Addr} (h1 : c ≠ x) (h2 : c ≠ y) (h3 : c ≠ z) : c ∉ [x, y, z] := by
  simp only [List.mem_cons, List.not_mem_nil, or_false, not_or]
  exact ⟨h1, h2, h3⟩
section
variable {P : Program} {w : World} {K : PySem.W.Frag} {mg : Str → Option Value} {base : Heap}
def sp_L_counted (K : PySem.W.Frag) : Sp := fun vs H Q _ => ∃ (a : Addr) (t : T), vs = [.ref a] ∧ SqT K H a (vi t.sch) ∧ t.size ≤ 60 ∧ ∀ H' p tm ct, Same H H' → H tm = none → H ct = none → SqT K H' p [.ref tm, .ref ct] → H' tm = some (.lst (vi t.wr)) → H' ct = some (.lst (vi t.rc)) → Q (.ref p) H'
theorem ok_L_counted (TX : Tx K mg) : FnOk P w K mg base CX0 1 TX.a_L_counted TX.fd_L_counted ["_law_plan"] (sp_L_counted K) := by
  refine TX.f_L_counted.ok sc_L_counted (fun vs H Q E h => ?_) (fun cdv A outer s H vs Q E hr h => ?_)
  · obtain ⟨a, t, rfl, _⟩ := h; rfl
  · obtain ⟨a, t, rfl, hS, hz, q⟩ := h
    refine ⟨_, (pss_cons (ps_par3 (i := 1) (j := 2) (l := 3) (by rfl) sc_L_counted.nd rfl rfl rfl (by decide) (by decide) (by decide) rfl rfl rfl (pa_cons (pe_lst pa_nil) (pa_cons (pe_op op_rep (pe_lst (pa_cons pe_int pa_nil)) (pe_callB (id := "len") (k_len (K := K) rfl) (by rfl) TX.b_len (by decide +kernel) (pa_cons (pv 0) pa_nil))) (pa_cons (pe_lst pa_nil) pa_nil))) (by rfl))
      (pss_cons (ps_for PassesOwn.never rfl (pi_enumT (by rfl) TX.b_enumerate (pa_cons (pv 0) pa_nil)) (pg_tup rfl (pgs_cons (pg_name (i := 4) sc_L_counted.nd rfl (.inl rfl)) (pgs_cons (pg_name (i := 5) sc_L_counted.nd rfl (.inl rfl)) pgs_nil)))
        (pss_cons (ps_set (i := 6) sc_L_counted.nd rfl (.inl rfl) (pe_lst (pa_cons (pv 4) pa_nil)))
        (pss_cons (ps_for PassesOwn.never rfl (pi_range1 (by rfl) TX.b_range (pa_cons (pv 5) pa_nil)) (pg_name (i := 7) sc_L_counted.nd rfl (.inl rfl))
          (pss_one (ps_set (i := 6) sc_L_counted.nd rfl (.inl rfl) (pe_op op_cat (pe_bm0 PySem.F.plainAttrs_list PySem.F.slot_list_pop PySem.F.type_list_pop mt_pop (pv 1)) (pv 6)))))
        (pss_cons (ps_for PassesOwn.never rfl (k_piL (K := K) rfl (pv 6)) (pg_name (i := 8) sc_L_counted.nd rfl (.inl rfl))
          (pss_one (ps_asg (pe_op op_add (pe_ix (k_ixL (K := K) rfl) (pv 2) (pv 8) (fun _ _ => rfl)) pe_int) (pg_sub (pv 2) (pv 8) set_list))))
        (pss_cons (ps_expr (pe_bm PySem.F.plainAttrs_list PySem.F.slot_list_append PySem.F.type_list_append mt_append (pv 1) (pa_cons (pv 6) pa_nil)))
        (pss_one (ps_expr (pe_bm PySem.F.plainAttrs_list PySem.F.slot_list_append PySem.F.type_list_append mt_append (pv 3) (pa_cons (pe_callB (id := "len") (k_len (K := K) rfl) (by rfl) TX.b_len (by decide +kernel) (pa_cons (pv 1) pa_nil)) pa_nil)))))))))
      (pss_one (ps_ret (pe_tup (pa_cons (pv 2) (pa_cons (pv 3) pa_nil))))))), ?_⟩
    have hlen : (vi t.sch).length = t.size := by rw [vi_len, T.sch_len]
    refine ⟨sz60 (by simp), fun hd nhd => ?_⟩
    have s1 := same_upd (o := .lst []) nhd
    refine ⟨sz60 (by simp), fun z nz => ?_⟩
    have s2 := same_upd (o := .lst [V.int 0]) nz
    refine ⟨.ref a, rfl, a, _, rfl, .inr (Same.tup (s1.trans s2) hS), z, _, _, rfl, rfl, upd_same, by omega, by omega, sz60 (by simp [vi_len, T.sch_len]; omega), fun tm ntm => ?_⟩
    have ec : (List.replicate ((vi t.sch).length : Int).toNat [V.int 0]).flatten = vi (List.replicate t.size 0) := by
      rw [vi_rep, hlen, Int.toNat_natCast, List.flatten_replicate_singleton]; rfl
    have s3 := same_upd (o := .lst (List.replicate ((vi t.sch).length : Int).toNat [V.int 0]).flatten) ntm
    refine ⟨sz60 (by simp), fun ct nct => ⟨_, _, _, rfl, ?_⟩⟩
    have s4 := same_upd (o := .lst []) nct
    have s14 := ((s1.trans s2).trans s3).trans s4
    have hhd := s4 _ _ (s3 _ _ (s2 _ _ upd_same))
    have htm := s4 _ _ (upd_same (H := upd (upd H hd (.lst [])) z (.lst [V.int 0])) (a := tm) (o := .lst (List.replicate ((vi t.sch).length : Int).toNat [V.int 0]).flatten))
    have nhdH : H hd = none := nhd
    have ntmH : H tm = none := (s1.trans s2).free ntm
    have nctH : H ct = none := ((s1.trans s2).trans s3).free nct
    have d1 : hd ≠ tm := fun e => by rw [← e, s2 _ _ upd_same] at ntm; cases ntm
    have d2 : hd ≠ ct := fun e => by rw [← e, s3 _ _ (s2 _ _ upd_same)] at nct; cases nct
    have d3 : tm ≠ ct := fun e => by rw [← e, upd_same] at nct; cases nct
    refine ⟨.ref a, rfl, a, _, rfl, Same.tup s14 hS, for_it walk_enumT (fun i σ H' => ∃ y4 y5 y6 y7 y8 hs c, σ = [some (.ref a), some (.ref hd), some (.ref tm), some (.ref ct), y4, y5, y6, y7, y8] ∧ Same H H' ∧ H' hd = some (.lst hs) ∧ Hld H' [hd, tm, ct] hs ((pre t i).stk 0) ∧ H' tm = some (.lst (vi c)) ∧ c.length = t.size ∧ (∀ k, k < t.size → c[k]? = some ((pre t i).wr.getD k 0)) ∧ H' ct = some (.lst (vi (t.rc.take i))))
      ⟨none, none, none, none, none, [], List.replicate t.size 0, rfl, s14, hhd, ⟨rfl, fun j p hj => by rw [pre_zero] at hj; cases hj⟩, (by rw [← ec]; exact htm), by simp, fun k hk => by rw [List.getElem?_replicate, if_pos hk]; rfl, by rw [List.take_zero]; exact upd_same⟩ (fun i σ H' _ ⟨_, _, _, _, _, _, _, _, h, _⟩ => Same.tup h hS) ?_ ?_⟩
    · rintro i x σ H1 H2 hi ⟨y4, y5, y6, y7, y8, hs, c, rfl, sm, g1, g2, g3, g4, g5, g6⟩ hy
      obtain ⟨Tp, x1, x2, rfl, nT, rfl, e1, e2⟩ := hy
      cases e1
      have hi' : i < t.sch.length := by rw [vi_len] at hi; exact hi
      have hm := List.getElem?_eq_getElem hi'
      replace e2 : (vi t.sch)[i]? = some x2 := e2
      rw [vi_get hm] at e2
      cases e2
      have hi2 : i < t.size := by rw [← T.sch_len]; exact hi'
      obtain ⟨f1, f2⟩ := pre_succ hm
      obtain ⟨m, hmm⟩ : ∃ m, m = t.sch[i] := ⟨_, rfl⟩
      rw [← hmm] at f1 f2 hm ⊢
      have hps : (pre t i).size = i := pre_size (by omega)
      have hrun := T.runs_le (pre t i)
      have sT : Same H1 (upd H1 Tp (.tup [.int (i : Nat), .int (m : Int)])) := same_upd nT
      refine ⟨Tp, _, rfl, .inl (.inl upd_same), rfl, _, _, rfl, _, [], rfl, rfl, ?_⟩
      refine ⟨_, rfl, sz60 (by simp), fun in0 nin0 => ?_⟩
      have sI := same_upd (o := .lst [V.int ((i : Nat) : Int)]) nin0
      have s12 := sT.trans sI
      have hin : (upd (upd H1 Tp (.tup [.int (i : Nat), .int (m : Int)])) in0 (.lst [V.int ((i : Nat) : Int)])) in0 = some (.lst (vi (seg ((pre t i).start 0) (i + 1)))) := by
        rw [upd_same, T.start_zero _ 0 (by omega) rfl, hps, seg_one]; rfl
      have fr : ∀ {b : Addr} {o : HO}, H1 b = some o → in0 ≠ b := fun {b o} e z => by rw [z, sT _ _ e] at nin0; cases nin0
      refine ⟨_, rfl, _, rfl, by omega, by omega, for_range (lo := 0) (fun j σ H' => ∃ ins y7 y8, σ = [some (.ref a), some (.ref hd), some (.ref tm), some (.ref ct), some (.int ((i : Nat) : Int)), some (.int (m : Int)), some (.ref ins), y7, y8] ∧ Same H H' ∧ H' hd = some (.lst (hs.take ((pre t i).runs - j))) ∧ Hld H' [hd, tm, ct] (hs.take ((pre t i).runs - j)) (((pre t i).stk 0).take ((pre t i).runs - j)) ∧ H' tm = some (.lst (vi c)) ∧ H' ct = some (.lst (vi (t.rc.take i))) ∧ ins ∉ [hd, tm, ct] ∧ H' ins = some (.lst (vi (seg ((pre t i).start j) (i + 1)))))
        ⟨in0, y7, y8, rfl, sm.trans s12, ?_, ?_, s12 _ _ g3, s12 _ _ g6, not3 (fr g1) (fr g3) (fr g6), hin⟩ ?_ ?_⟩
      · have := g2.1
        rw [T.stk_len] at this
        rw [Nat.sub_zero, List.take_of_length_le (by omega)]
        exact s12 _ _ g1
      · rw [Nat.sub_zero]
        exact (g2.same s12).take _
      · rintro j σ H3 hj ⟨ins, y7, y8, rfl, sm3, k1, k2, k3, k4, k5, k6⟩
        have hj2 : j + 1 ≤ (pre t i).runs := by omega
        have ed : (pre t i).runs - j = ((pre t i).runs - (j + 1)) + 1 := by omega
        have hpr := stk_pair (pre t i) 0 j hj2
        rw [Nat.zero_add, Nat.zero_add] at hpr
        obtain ⟨c0, e1, e2, e3⟩ := k2.2 ((pre t i).runs - (j + 1)) _ (by rw [List.getElem?_take, if_pos (by omega)]; exact hpr)
        have hsl : hs.length = (pre t i).runs := by rw [g2.1, T.stk_len]
        have hlt : (hs.take ((pre t i).runs - j)).length = (pre t i).runs - j := by rw [List.length_take]; omega
        have hdl : (hs.take ((pre t i).runs - j)).dropLast = hs.take ((pre t i).runs - (j + 1)) := by
          rw [List.dropLast_eq_take, hlt, List.take_take]
          congr 1
          omega
        refine ⟨.ref hd, rfl, .inl ⟨rfl, _, .inl (.inl k1)⟩, hd, _, .ref c0, rfl, rfl, k1, by rw [hlt, show (pre t i).runs - j - 1 = (pre t i).runs - (j + 1) by omega]; exact e1, ?_⟩
        rw [hdl]
        have bk : ∀ {b : Addr} {o : HO}, b ≠ hd → H3 b = some o → (upd H3 hd (.lst (hs.take ((pre t i).runs - (j + 1))))) b = some o := fun hb e => by rw [upd_ne hb]; exact e
        have ha := start_anti (pre t i) j hj2
        have hb := T.start_le (pre t i) j (by omega)
        have c0h : c0 ≠ hd := fun e => e2 (by rw [e]; simp)
        have inh : ins ≠ hd := fun e => k5 (by rw [e]; simp)
        refine ⟨_, rfl, c0, ins, _, _, rfl, rfl, bk c0h e3, bk inh k6, sz60 (by simp [vi_len, seg_len]; omega), fun ni nni => ?_⟩
        have sN := same_upd (o := .lst (vi (seg ((pre t i).start (j + 1)) ((pre t i).start j)) ++ vi (seg ((pre t i).start j) (i + 1)))) nni
        have es : vi (seg ((pre t i).start (j + 1)) ((pre t i).start j)) ++ vi (seg ((pre t i).start j) (i + 1)) = vi (seg ((pre t i).start (j + 1)) (i + 1)) := by
          rw [← vi_app, seg_app (by omega) (by omega)]
        have k2' : Hld (upd H3 hd (.lst (hs.take ((pre t i).runs - (j + 1))))) [hd, tm, ct] (hs.take ((pre t i).runs - (j + 1))) (((pre t i).stk 0).take ((pre t i).runs - (j + 1))) := by
          have h := (k2.take ((pre t i).runs - (j + 1))).upd (b := hd) (o := .lst (hs.take ((pre t i).runs - (j + 1)))) (by simp)
          rw [List.take_take, List.take_take, Nat.min_eq_left (by omega)] at h
          exact h
        have fr3 : ∀ {b : Addr} {o : HO}, (upd H3 hd (.lst (hs.take ((pre t i).runs - (j + 1))))) b = some o → ni ≠ b := fun {b o} e z => by rw [z, e] at nni; cases nni
        refine ⟨ni, _, _, rfl, (Same.mut sm3 nhdH).trans sN, sN _ _ upd_same, k2'.same sN, sN _ _ (bk d1.symm k3), sN _ _ (bk d2.symm k4), not3 (fr3 upd_same) (fr3 (bk d1.symm k3)) (fr3 (bk d2.symm k4)), ?_⟩
        rw [← es]
        exact upd_same
      · rintro σ H3 ⟨ins, y7, y8, rfl, sm3, k1, k2, k3, k4, k5, k6⟩
        have em : ((m : Nat) : Int).toNat = m := by omega
        rw [em] at k1 k2 k6
        have hst := T.start_le (pre t i) m f2
        rw [hps] at hst
        obtain ⟨b0, hb0⟩ : ∃ b0, b0 = (pre t i).start m := ⟨_, rfl⟩
        rw [← hb0] at hst k6
        have d4 : ins ≠ hd := fun e => k5 (by rw [e]; simp)
        have d5 : ins ≠ tm := fun e => k5 (by rw [e]; simp)
        have d6 : ins ≠ ct := fun e => k5 (by rw [e]; simp)
        have hsl2 : (vi (seg b0 (i + 1))).length = i + 1 - b0 := by rw [vi_len, seg_len]
        refine ⟨.ref ins, rfl, ins, rfl, ⟨_, .inl (.inl k6)⟩, for_it (walk_list (xs := vi (seg b0 (i + 1)))) (fun j σ H' => ∃ y8 c', σ = [some (.ref a), some (.ref hd), some (.ref tm), some (.ref ct), some (.int ((i : Nat) : Int)), some (.int (m : Int)), some (.ref ins), y7, y8] ∧ Same H H' ∧ H' hd = some (.lst (hs.take ((pre t i).runs - m))) ∧ Hld H' [hd, tm, ct] (hs.take ((pre t i).runs - m)) (((pre t i).stk 0).take ((pre t i).runs - m)) ∧ H' tm = some (.lst (vi c')) ∧ c'.length = t.size ∧ (∀ k, k < t.size → c'[k]? = some (if b0 ≤ k ∧ k < b0 + j then (pre t i).wr.getD k 0 + 1 else (pre t i).wr.getD k 0)) ∧ H' ct = some (.lst (vi (t.rc.take i))) ∧ H' ins = some (.lst (vi (seg b0 (i + 1)))))
          ⟨_, c, rfl, sm3, k1, k2, k3, g4, fun k hk => by rw [if_neg (by omega)]; exact g5 k hk, k4, k6⟩ (fun j σ H' _ ⟨_, _, _, _, _, _, _, _, _, _, h⟩ => .inl (.inl h)) ?_ ?_⟩
        · rintro j x σ H4 H4' hj ⟨y8, c', rfl, sm4, l1, l2, l3, l4, l5, l6, l7⟩ ⟨rfl, hx⟩
          have hj2 : b0 + j < i + 1 := by omega
          rw [vi_get (seg_at hj2)] at hx
          cases hx
          have h6 := l5 (b0 + j) (by omega)
          rw [if_neg (by omega)] at h6
          refine ⟨.ref tm, rfl, _, rfl, tm, _, _, _, rfl, rfl, .inl (.inl l3), at_vi h6, _, _, rfl, rfl, .ref tm, rfl, _, rfl, tm, _, _, _, rfl, rfl, l3, ixN_of (by rw [vi_len]; omega), ?_⟩
          have e2 : (((pre t i).wr.getD (b0 + j) 0 : Nat) : Int) + 1 = (((pre t i).wr.getD (b0 + j) 0 + 1 : Nat) : Int) := by omega
          refine ⟨_, c'.set (b0 + j) ((pre t i).wr.getD (b0 + j) 0 + 1), rfl, Same.mut sm4 ntmH, by rw [upd_ne d1]; exact l1, l2.upd (by simp), ?_, by rw [List.length_set]; exact l4, fun k hk => ?_, by rw [upd_ne d3.symm]; exact l6, by rw [upd_ne d5]; exact l7⟩
          · rw [← vi_set, ← e2]; exact upd_same
          · by_cases hk2 : b0 + j = k
            · rw [← hk2, List.getElem?_set_self (by omega), if_pos (by omega)]
            · rw [List.getElem?_set_ne hk2, l5 k hk]
              by_cases hk3 : b0 ≤ k ∧ k < b0 + j
              · rw [if_pos hk3, if_pos (by omega)]
              · rw [if_neg hk3, if_neg (by omega)]
        · rintro σ H4 ⟨y8, c', rfl, sm4, l1, l2, l3, l4, l5, l6, l7⟩
          rw [hsl2] at l5
          have htl : (hs.take ((pre t i).runs - m)).length ≤ 60 := by rw [List.length_take]; omega
          refine ⟨.ref hd, rfl, .inl ⟨rfl, _, .inl (.inl l1)⟩, _, rfl, hd, _, _, rfl, rfl, l1, sz61 (by omega), ?_⟩
          have hs' : (pre t (i + 1)).stk 0 = ((pre t i).stk 0).take ((pre t i).runs - m) ++ [(b0, i + 1)] := by
            rw [f1, T.stk_push _ _ f2 0, hb0, hps]
            simp only [Nat.zero_add]
          have hH := (l2.snoc (c := ins) (p := (b0, i + 1)) k5 l7).upd (b := hd) (o := .lst (hs.take ((pre t i).runs - m) ++ [V.ref ins])) (by simp)
          have hhd' : (upd H4 hd (.lst (hs.take ((pre t i).runs - m) ++ [V.ref ins]))) hd = some (.lst (hs.take ((pre t i).runs - m) ++ [V.ref ins])) := upd_same
          have hct' : (upd H4 hd (.lst (hs.take ((pre t i).runs - m) ++ [V.ref ins]))) ct = some (.lst (vi (t.rc.take i))) := by rw [upd_ne d2.symm]; exact l6
          have htm' : (upd H4 hd (.lst (hs.take ((pre t i).runs - m) ++ [V.ref ins]))) tm = some (.lst (vi c')) := by rw [upd_ne d1.symm]; exact l3
          refine ⟨.ref ct, rfl, .inl ⟨rfl, _, .inl (.inl hct')⟩, .ref hd, rfl, hd, _, rfl, .inl (.inl (.inl hhd')), ct, _, _, rfl, rfl, hct', sz61 (by rw [vi_len, List.length_take]; omega), ?_⟩
          refine ⟨_, _, _, _, _, hs.take ((pre t i).runs - m) ++ [V.ref ins], c', rfl, Same.mut (Same.mut sm4 nhdH) nctH, by rw [upd_ne d2]; exact hhd', ?_, by rw [upd_ne d3]; exact htm', l4, fun k hk => ?_, ?_⟩
          · rw [hs']
            exact hH.upd (by simp)
          · rw [l5 k hk, f1, wr_step f2, hps, ← hb0]
            by_cases hk3 : b0 ≤ k ∧ k < i + 1
            · rw [if_pos (by omega), if_pos hk3]
            · rw [if_neg (by omega), if_neg hk3]
          · have erc := pre_runs hi2
            have hrl : (hs.take ((pre t i).runs - m) ++ [V.ref ins]).length = (pre t (i + 1)).runs := by
              have h := hH.1
              rw [← hs', T.stk_len] at h
              exact h
            rw [upd_same, hrl, List.take_add_one, erc, vi_app]
            rfl
    · rintro σ H1 ⟨y4, y5, y6, y7, y8, hs, c, rfl, sm, g1, g2, g3, g4, g5, g6⟩
      rw [hlen, pre_all] at g5
      rw [hlen, List.take_of_length_le (by rw [T.rc_len]; omega)] at g6
      have ecw : c = t.wr := list_by (by rw [g4, T.wr_len]) fun k hk => g5 k (by omega)
      rw [ecw] at g3
      refine ⟨_, rfl, _, rfl, sz60 (by simp), fun p np => ?_⟩
      have sp := same_upd (o := .tup [V.ref tm, V.ref ct]) np
      exact q _ p tm ct (sm.trans sp) ntmH nctH (.inl (.inl upd_same)) (sp _ _ g3) (sp _ _ g6)
end
/-- a table of whole numbers of n flushes -/
def rowB (B : Nat → Nat → Int) (n i : Nat) : List Int := (List.range (n + 1 - i)).map (B i)
def dTab (B : Nat → Nat → Int) (n : Nat) : PyData := .tuple ((List.range (n + 1)).map fun i => .tuple ((rowB B n i).map PyData.int))
theorem dTab_lw (S R : Nat → Int) (n : Nat) : dTab (lw S R) n = .tuple (dRows S R n) := rfl
theorem rowB_len (B : Nat → Nat → Int) (n i : Nat) : (rowB B n i).length = n + 1 - i := by simp [rowB]
theorem rowB_at {B : Nat → Nat → Int} {n i m : Nat} (h : i + m ≤ n) : (rowB B n i)[m]? = some (B i m) := by
  unfold rowB
  rw [List.getElem?_map, List.getElem?_range (by omega)]; rfl
theorem tab_row {K : PySem.W.Frag} {H : Hp} {v : V} {B : Nat → Nat → Int} {n : Nat} (h : Dp K H v (dTab B n)) : ∃ a xs, v = .ref a ∧ SqT K H a xs ∧ xs.length = n + 1 ∧ ∀ i, i ≤ n → ∃ b, xs[i]? = some (.ref b) ∧ SqT K H b ((rowB B n i).map V.int) := by
  obtain ⟨a, xs, rfl, hS, hA⟩ := Dp.tupInv h
  refine ⟨a, xs, rfl, hS, by rw [DpAll.len hA]; simp, fun i hi => ?_⟩
  obtain ⟨x, hx, hD⟩ := DpAll.get hA (i := i) (d := .tuple ((rowB B n i).map PyData.int)) (by rw [List.getElem?_map, List.getElem?_range (by omega)]; rfl)
  obtain ⟨b, rfl, hB⟩ := Dp.intsInv hD
  exact ⟨b, hx, hB⟩
theorem tab_rd {K : PySem.W.Frag} {H : Hp} {v : V} {B : Nat → Nat → Int} {n : Nat} (h : Dp K H v (dTab B n)) {i m : Nat} (hi : i + m ≤ n) : Rd K H v i m (B i m) := by
  obtain ⟨a, xs, rfl, hS, _, hr⟩ := tab_row h
  obtain ⟨b, hb, hB⟩ := hr i (by omega)
  refine ⟨a, xs, b, _, rfl, .inr hS, hb, .inr hB, ?_⟩
  rw [List.getElem?_map, rowB_at hi]; rfl
/-- an int or None -/
def ov : Option Int → V
  | none => .non
  | some i => .int i
def Rdo (K : PySem.W.Frag) (H : Hp) (v : V) (i k : Nat) (x : Option Int) : Prop := ∃ a xs b ys, v = .ref a ∧ SqQ K H a xs ∧ xs[i]? = some (.ref b) ∧ SqQ K H b ys ∧ ys[k]? = some (ov x)
theorem Rd.o {K : PySem.W.Frag} {H : Hp} {v : V} {i k : Nat} {x : Int} (h : Rd K H v i k x) : Rdo K H v i k (some x) := h
theorem Rdo.same {K : PySem.W.Frag} {H H' : Hp} {v : V} {i k : Nat} {x : Option Int} (h : Rdo K H v i k x) (e : Same H H') : Rdo K H' v i k x := by
  obtain ⟨a, xs, b, ys, h1, h2, h3, h4, h5⟩ := h
  exact ⟨a, xs, b, ys, h1, h2.same e, h3, h4.same e, h5⟩
def RdsO (K : PySem.W.Frag) (H : Hp) (v u : V) (l r : Nat → Option Int) (i m : Nat) : Prop := (∀ k, k < m → Rdo K H v i k (l k)) ∧ ∀ k, k < m → Rdo K H u (i + k + 1) (m - 1 - k) (r k)
theorem RdsO.same {K : PySem.W.Frag} {H H' : Hp} {v u : V} {l r : Nat → Option Int} {i m : Nat} (h : RdsO K H v u l r i m) (e : Same H H') : RdsO K H' v u l r i m :=
  ⟨fun k hk => (h.1 k hk).same e, fun k hk => (h.2 k hk).same e⟩
def wb1 (l r : Nat → Option Int) (c : Nat → Int) (i k : Nat) : Option (Int × Int) := match l k, r k with
  | some x, some y => some (x + y + c k, ((i + k : Nat) : Int))
  | _, _ => none
def wbo (l r : Nat → Option Int) (c : Nat → Int) (i m : Nat) : List (Int × Int) := (List.range m).filterMap (wb1 l r c i)
theorem wbo_succ (l r : Nat → Option Int) (c : Nat → Int) (i m : Nat) : wbo l r c i (m + 1) = wbo l r c i m ++ (wb1 l r c i m).toList := by
  unfold wbo
  rw [List.range_succ, List.filterMap_append]
  cases e : wb1 l r c i m <;> simp [e]
theorem wbo_len (l r : Nat → Option Int) (c : Nat → Int) (i m : Nat) : (wbo l r c i m).length ≤ m := by
  unfold wbo
  have := List.length_filterMap_le (wb1 l r c i) (List.range m)
  rwa [List.length_range] at this
def lowV (b : Int) (ps : List (Int × Int)) : Bool := ps.all fun p => decide (b ≤ p.1)
def ivN (n : Nat) : List (Nat × Nat) := (List.range (n + 1)).flatMap fun i => (List.range (n + 1 - i)).map fun m => (i, m)
def dIv (p : Nat × Nat) : PyData := dP ((p.1 : Int), ((p.1 + p.2 : Nat) : Int))
theorem ivN_blks (n : Nat) : (ivN n).map dIv = blks (fun i => (List.range (n + 1 - i)).map fun m => dIv (i, m)) (n + 1) := by
  unfold ivN blks
  rw [List.map_flatMap]
  simp only [List.map_map]
  rfl
theorem mem_ivN {n : Nat} {p : Nat × Nat} : p ∈ ivN n ↔ p.1 + p.2 ≤ n := by
  unfold ivN
  rw [List.mem_flatMap]
  constructor
  · rintro ⟨i, hi, h⟩
    obtain ⟨m, hm, rfl⟩ := List.mem_map.mp h
    have := List.mem_range.mp hi
    have := List.mem_range.mp hm
    show i + m ≤ n
    omega
  · intro h
    exact ⟨p.1, List.mem_range.mpr (by omega), List.mem_map.mpr ⟨p.2, List.mem_range.mpr (by omega), rfl⟩⟩
theorem blks_len_le {f : Nat → List PyData} {c : Nat} : ∀ n, (∀ i, i < n → (f i).length ≤ c) → (blks f n).length ≤ c * n
  | 0, _ => by simp [blks]
  | n + 1, h => by
    have h1 := blks_len_le n fun i hi => h i (by omega)
    have h2 := h n (by omega)
    rw [blks_succ, List.length_append, Nat.mul_add, Nat.mul_one]
    omega
theorem tf_dIv (p : Nat × Nat) : Tf (dIv p) := tf_dP _
/-- whether the bound of the m flushes from i on is low enough -/
def lowAt (S R : Nat → Int) (B : Nat → Nat → Int) (p : Nat × Nat) : Bool :=
  if p.2 = 0 then decide (B p.1 0 ≤ 0) else lowV (B p.1 p.2) (wbo (fun k => some (B p.1 k)) (fun k => some (B (p.1 + k + 1) (p.2 - 1 - k))) (cst S R p.1 p.2) p.1 p.2)
def okTab (S R : Nat → Int) (B : Nat → Nat → Int) (n : Nat) : Bool := (ivN n).all (lowAt S R B)
theorem mem_wbo {l r : Nat → Option Int} {c : Nat → Int} {i m : Nat} {p : Int × Int} : p ∈ wbo l r c i m ↔ ∃ k, k < m ∧ wb1 l r c i k = some p := by
  unfold wbo
  rw [List.mem_filterMap]
  constructor
  · rintro ⟨k, hk, h⟩; exact ⟨k, List.mem_range.mp hk, h⟩
  · rintro ⟨k, hk, h⟩; exact ⟨k, List.mem_range.mpr hk, h⟩
theorem lowAt_iff {S R : Nat → Int} {B : Nat → Nat → Int} {i m : Nat} : lowAt S R B (i, m + 1) = true ↔ ∀ k, k ≤ m → B i (m + 1) ≤ B i k + B (i + k + 1) (m - k) + cst S R i (m + 1) k := by
  unfold lowAt lowV
  rw [if_neg (by simp), List.all_eq_true]
  constructor
  · intro h k hk
    have := h (B i k + B (i + k + 1) (m - k) + cst S R i (m + 1) k, ((i + k : Nat) : Int)) (mem_wbo.mpr ⟨k, by dsimp only; omega, rfl⟩)
    simpa using this
  · intro h p hp
    obtain ⟨k, hk, e⟩ := mem_wbo.mp hp
    have e' : (B i k + B (i + k + 1) (m - k) + cst S R i (m + 1) k, ((i + k : Nat) : Int)) = p := Option.some.inj e
    rw [← e']
    exact decide_eq_true (h k (by dsimp only at hk; omega))
theorem okTab_iff {S R : Nat → Int} {B : Nat → Nat → Int} {n : Nat} : okTab S R B n = true ↔ ∀ i m, i + m ≤ n → lowAt S R B (i, m) = true := by
  unfold okTab
  rw [List.all_eq_true]
  exact ⟨fun h i m hi => h (i, m) (mem_ivN.mpr hi), fun h p hp => h p.1 p.2 (mem_ivN.mp hp)⟩
theorem lwk_ok (S R : Nat → Int) (n : Nat) : okTab S R (lw S R) n = true := by
  rw [okTab_iff]
  intro i m hi
  cases m with
  | zero =>
    unfold lowAt
    rw [if_pos rfl]
    exact decide_eq_true (by rw [lw_zero]; exact Int.le_refl _)
  | succ m =>
    rw [lowAt_iff]
    intro k hk
    have := lw_le S R i hk
    unfold via at this
    exact this
/-- no bound is above the least work -/
theorem low_le {S R : Nat → Int} {B : Nat → Nat → Int} {n : Nat} (h : okTab S R B n = true) : ∀ m i, i + m ≤ n → B i m ≤ lw S R i m := by
  rw [okTab_iff] at h
  intro m
  induction m using Nat.strongRecOn with
  | ind m ih =>
    intro i hi
    cases m with
    | zero =>
      have := h i 0 hi
      unfold lowAt at this
      rw [if_pos rfl] at this
      rw [lw_zero]
      exact of_decide_eq_true this
    | succ m =>
      have h1 := lowAt_iff.mp (h i (m + 1) hi) (rt S R i m) (rt_le _ _ _ _)
      rw [lw_succ]
      have hk := rt_le S R i m
      generalize rt S R i m = k at hk h1 ⊢
      have h2 := ih k (by omega) i (by omega)
      have h3 := ih (m - k) (by omega) (i + k + 1) (by omega)
      unfold via
      omega
/-- no int -/
def NotI (K : PySem.W.Frag) (H : Hp) (x : V) : Prop := x = .non ∨ (∃ b, x = .bl b) ∨ (∃ z, x = .str z) ∨ ∃ a xs, x = .ref a ∧ SqT K H a xs
theorem NotI.same {K : PySem.W.Frag} {H H' : Hp} {x : V} (h : NotI K H x) (e : Same H H') : NotI K H' x := by
  rcases h with h | h | h | ⟨a, xs, h, hs⟩
  · exact .inl h
  · exact .inr (.inl h)
  · exact .inr (.inr (.inl h))
  · exact .inr (.inr (.inr ⟨a, xs, h, Same.tup e hs⟩))
theorem NotI.ty {K : PySem.W.Frag} {H : Hp} {x : V} (h : NotI K H x) : ∃ T b1 b2, TyX K H x (.type T) ∧ L2.kitB T "int" = some b1 ∧ L2.kitB T "bool" = some b2 ∧ (b1 && !b2) = false := by
  rcases h with rfl | ⟨b, rfl⟩ | ⟨z, rfl⟩ | ⟨a, xs, rfl, hs⟩
  · exact ⟨"NoneType", false, false, .base .non, by decide +kernel, by decide +kernel, rfl⟩
  · exact ⟨"bool", true, true, .base (.bl b), by decide +kernel, by decide +kernel, rfl⟩
  · exact ⟨"str", false, false, .base (.str z), by decide +kernel, by decide +kernel, rfl⟩
  · exact ⟨"tuple", false, false, ty_tup hs, by decide +kernel, by decide +kernel, rfl⟩
section
variable {P : Program} {w : World} {K : PySem.W.Frag} {mg : Str → Option Value} {base : Heap}
def sp_is_intD (K : PySem.W.Frag) : Sp := fun vs H Q _ => ∃ x T b1 b2, vs = [x] ∧ TyX K H x (.type T) ∧ L2.kitB T "int" = some b1 ∧ L2.kitB T "bool" = some b2 ∧ Q (.bl (b1 && !b2)) H
theorem ok_is_intD (TX : Tx K mg) : FnOk P w K mg base CX0 1 TX.a_is_int TX.fd_is_int ["value"] (sp_is_intD K) := by
  refine TX.f_is_int.ok sc_is_int (fun vs H Q E h => ?_) (fun cdv A outer s H vs Q E hr h => ?_)
  · obtain ⟨x, T, b1, b2, rfl, _⟩ := h; rfl
  · obtain ⟨x, T, b1, b2, rfl, hT, h1, h2, q⟩ := h
    refine ⟨_, (pss_one (ps_ret (pe_and (pe_callB (id := "isinstance") (k_isi (K := K) rfl) (by rfl) TX.b_isinstance (by decide +kernel) (pa_cons (pv 0) (pa_cons (pe_bltn (v := .ty "int") (by rfl) TX.b_int (by decide +kernel) rfl) pa_nil))) (pe_one (pe_not (pe_callB (id := "isinstance") (k_isi (K := K) rfl) (by rfl) TX.b_isinstance (by decide +kernel) (pa_cons (pv 0) (pa_cons (pe_bltn (v := .ty "bool") (by rfl) TX.b_bool (by decide +kernel) rfl) pa_nil)))))))), ?_⟩
    refine ⟨x, rfl, x, .ty "int", .type T, .type "int", b1, rfl, .ty _, hT, kit_ty h1, b1, rfl, ?_⟩
    cases b1 with
    | false => exact iteF q
    | true => exact iteT ⟨x, rfl, x, .ty "bool", .type T, .type "bool", b2, rfl, .ty _, hT, kit_ty h2, b2, rfl, q⟩
def sp_works_by_rootO (K : PySem.W.Frag) : Sp := fun vs H Q _ => ∃ (v u z : V) (ss rs : List Int) (i m : Nat) (lf rg : Nat → Option Int), vs = [v, u, z, .int (i : Int), .int ((i + m : Nat) : Int)] ∧ Sms K H z ss rs ∧ i + m ≤ ss.length ∧ i + m ≤ rs.length ∧ ss.length ≤ 1000 ∧ RdsO K H v u lf rg i m ∧
  ∀ H' p us, Same H H' → H p = none → H' p = some (.lst us) → DpAll K H' us ((wbo lf rg (cst (sm ss) (sm rs) i m) i m).map dP) → Q (.ref p) H'
theorem ok_works_by_rootO (TX : Tx K mg) : FnOk P w K mg base CX0 2 TX.a_works_by_root TX.fd_works_by_root ["lefts", "rights", "sums", "start", "stop"] (sp_works_by_rootO K) := by
  refine TX.f_works_by_root.ok sc_works_by_root (fun vs H Q E h => ?_) (fun cdv A outer s H vs Q E hr h => ?_)
  · obtain ⟨v, u, z, ss, rs, i, m, lf, rg, rfl, _⟩ := h; rfl
  · obtain ⟨v, u, z, ss, rs, i, m, lf, rg, rfl, hZ, h1, h2, h3, hR, q⟩ := h
    refine ⟨_, (pss_cons (ps_set (i := 5) sc_works_by_root.nd rfl (.inl rfl) (pe_lst pa_nil))
      (pss_cons (ps_for PassesOwn.never rfl (pi_range2 (by rfl) TX.b_range (pa_cons (pv 3) (pa_cons (pv 4) pa_nil))) (pg_name (i := 6) sc_works_by_root.nd rfl (.inl rfl))
        (pss_cons (ps_set (i := 7) sc_works_by_root.nd rfl (.inl rfl) (pe_ix (k_ixQ (K := K) rfl) (pe_ix (k_ixQ (K := K) rfl) (pv 0) (pv 3) (fun _ _ => rfl)) (pe_op op_sub (pv 6) (pv 3)) (fun _ _ => rfl)))
        (pss_cons (ps_set (i := 8) sc_works_by_root.nd rfl (.inl rfl) (pe_ix (k_ixQ (K := K) rfl) (pe_ix (k_ixQ (K := K) rfl) (pv 1) (pe_op op_add (pv 6) pe_int) (fun _ _ => rfl)) (pe_op op_sub (pe_op op_sub (pv 4) (pv 6)) pe_int) (fun _ _ => rfl)))
        (pss_one (ps_if (PW.pt (pw_and (pt_cmpR op_notN (pv 7) pe_non (nomark _)) (pw_and1 (pt_cmpR op_notN (pv 8) pe_non (nomark _)))))
          (pss_one (ps_expr (pe_bm PySem.F.plainAttrs_list PySem.F.slot_list_append PySem.F.type_list_append mt_append (pv 5) (pa_cons (pe_tup (pa_cons (pe_op op_add (pe_op op_add (pv 7) (pv 8)) (pe_call (ok_root_cost TX) (hr.mono (by decide)) (by rfl) TX.g_root_cost TX.f_root_cost.kp TX.bd_root_cost .nil pass0 (pa_cons (pv 2) (pa_cons (pv 3) (pa_cons (pv 4) (pa_cons (pv 6) pa_nil)))))) (pa_cons (pv 6) pa_nil))) pa_nil))))
          pss_nil)))))
      (pss_one (ps_ret (pv 5))))), ?_⟩
    refine ⟨sz60 (by simp), fun l nl => ?_⟩
    have s1 := same_upd (o := .lst []) nl
    have en : ((((i + m : Nat) : Int)) - ((i : Nat) : Int)).toNat = m := by omega
    refine ⟨_, rfl, _, rfl, _, _, rfl, ⟨by omega, by omega, by omega, by omega⟩, ?_⟩
    refine for_range (lo := ((i : Nat) : Int)) (fun j σ H' => ∃ y6 y7 y8 us, σ = [some v, some u, some z, some (.int (i : Int)), some (.int ((i + m : Nat) : Int)), some (.ref l), y6, y7, y8] ∧ Same H H' ∧ H' l = some (.lst us) ∧ DpAll K H' us ((wbo lf rg (cst (sm ss) (sm rs) i m) i j).map dP)) ⟨none, none, none, [], rfl, s1, upd_same, .nil⟩ ?_ ?_
    · rintro j σ H2 hj ⟨y6, y7, y8, us, rfl, s2, hl, hA⟩
      rw [en] at hj
      obtain ⟨a, xs, b, ys, rfl, g1, g2, g3, g4⟩ := (hR.1 j hj).same s2
      obtain ⟨a', xs', b', ys', rfl, k1, k2, k3, k4⟩ := (hR.2 j hj).same s2
      have e1 : ((i : Nat) : Int) + ((j : Nat) : Int) = ((i + j : Nat) : Int) := by omega
      have e2 : ((i + j : Nat) : Int) - ((i : Nat) : Int) = ((j : Nat) : Int) := by omega
      have e3 : ((i + j : Nat) : Int) + 1 = ((i + j + 1 : Nat) : Int) := by omega
      have e4 : ((i + m : Nat) : Int) - ((i + j : Nat) : Int) - 1 = ((m - 1 - j : Nat) : Int) := by omega
      rw [e1]
      refine ⟨_, rfl, _, rfl, a, xs, _, _, rfl, rfl, g1, atI_nat g2, _, rfl, _, rfl, _, _, rfl, rfl, b, ys, _, _, rfl, rfl, g3, (by rw [e2]; exact atI_nat g4), ?_⟩
      refine ⟨_, rfl, _, rfl, _, _, rfl, rfl, a', xs', _, _, rfl, rfl, k1, (by rw [e3]; exact atI_nat k2), _, rfl, _, rfl, _, _, rfl, rfl, _, _, rfl, rfl, b', ys', _, _, rfl, rfl, k3, (by rw [e4]; exact atI_nat k4), ?_⟩
      have hul := DpAll.len hA
      have hwl := wbo_len lf rg (cst (sm ss) (sm rs) i m) i j
      rw [List.length_map] at hul
      have hw := wbo_succ lf rg (cst (sm ss) (sm rs) i m) i j
      cases ex : lf j with
      | none =>
        have e0 : wb1 lf rg (cst (sm ss) (sm rs) i m) i j = none := by unfold wb1; rw [ex]
        rw [e0, Option.toList_none, List.append_nil] at hw
        refine ⟨_, rfl, rfl, _, rfl, iteB0 (by simp [ov]) (iteF ?_)⟩
        exact ⟨_, _, _, us, rfl, s2, hl, by rw [hw]; exact hA⟩
      | some x =>
      cases ey : rg j with
      | none =>
        have e0 : wb1 lf rg (cst (sm ss) (sm rs) i m) i j = none := by unfold wb1; rw [ex, ey]
        rw [e0, Option.toList_none, List.append_nil] at hw
        refine ⟨_, rfl, rfl, _, rfl, iteB1 (by simp [ov]) ⟨_, rfl, rfl, _, rfl, iteB0 (by simp [ov]) ?_⟩⟩
        exact ⟨_, _, _, us, rfl, s2, hl, by rw [hw]; exact hA⟩
      | some y =>
      have e0 : wb1 lf rg (cst (sm ss) (sm rs) i m) i j = some (x + y + cst (sm ss) (sm rs) i m j, ((i + j : Nat) : Int)) := by unfold wb1; rw [ex, ey]
      rw [e0, Option.toList_some] at hw
      refine ⟨_, rfl, rfl, _, rfl, iteB1 (by simp [ov]) ⟨_, rfl, rfl, _, rfl, iteB1 (by simp [ov]) ?_⟩⟩
      refine ⟨.ref l, rfl, .inl ⟨rfl, _, .inl (.inl hl)⟩, _, rfl, _, rfl, _, _, rfl, rfl, z, rfl, _, rfl, _, rfl, _, rfl, z, ss, rs, i, m, j, rfl, hZ.same s2, h1, h2, hj, _, _, rfl, rfl, _, rfl, sz60 (by simp), fun p np => ?_⟩
      have s3 := same_upd (o := .tup [V.int (x + y + cst (sm ss) (sm rs) i m j), V.int ((i + j : Nat) : Int)]) np
      have hl3 := s3 _ _ hl
      refine ⟨l, us, _, rfl, rfl, hl3, sz61 (by omega), ?_⟩
      refine ⟨_, _, _, us ++ [V.ref p], rfl, Same.mut (s2.trans s3) nl, upd_same, ?_⟩
      rw [hw, List.map_append]
      refine DpAll.keep (But.keep But.upd hl3) (fun d hd => ?_) (DpAll.append (DpAll.same s3 hA) (.cons ?_ .nil))
      · rcases List.mem_append.mp hd with hd | hd
        · obtain ⟨p, _, rfl⟩ := List.mem_map.mp hd
          exact tf_dP p
        · obtain ⟨p, _, rfl⟩ := List.mem_map.mp hd
          exact tf_dP p
      · exact dp_dP (.inl (.inl upd_same))
    · rintro σ H2 ⟨y6, y7, y8, us, rfl, s2, hl, hA⟩
      rw [en] at hA
      exact ⟨_, rfl, q _ l us s2 nl hl hA⟩
end
/-- the least work of the m flushes from i on within b runs and a writes -/
def lwb (S R : Nat → Int) : Nat → Nat → Nat → Nat → Option Int
  | _, _, _, 0 => some 0
  | 0, _, _, _ + 1 => none
  | _ + 1, 0, _, _ + 1 => none
  | b + 1, a + 1, i, m + 1 => (minP (wbo (fun k => lwb S R (b + 1) a i k) (fun k => lwb S R b (a + 1) (i + k + 1) (m - k)) (cst S R i (m + 1)) i (m + 1))).map (·.1)
termination_by b a => b + a
def bstw (S R : Nat → Int) (b a i m : Nat) : Option (Int × Int) := minP (wbo (fun k => lwb S R (b + 1) a i k) (fun k => lwb S R b (a + 1) (i + k + 1) (m - k)) (cst S R i (m + 1)) i (m + 1))
theorem lwb_zero (S R : Nat → Int) (b a i : Nat) : lwb S R b a i 0 = some 0 := by
  cases b <;> cases a <;> simp [lwb]
theorem lwb_b0 (S R : Nat → Int) (a i m : Nat) : lwb S R 0 a i (m + 1) = none := by
  cases a <;> simp [lwb]
theorem lwb_a0 (S R : Nat → Int) (b i m : Nat) : lwb S R b 0 i (m + 1) = none := by
  cases b <;> simp [lwb]
theorem lwb_succ (S R : Nat → Int) (b a i m : Nat) : lwb S R (b + 1) (a + 1) i (m + 1) = (bstw S R b a i m).map (·.1) := by
  rw [lwb]; rfl
/-- the longest schedule -/
def mxb : Nat → Nat → Nat
  | 0, _ => 0
  | _ + 1, 0 => 0
  | b + 1, a + 1 => mxb (b + 1) a + mxb b (a + 1) + 1
termination_by b a => b + a
theorem mxb_b0 (a : Nat) : mxb 0 a = 0 := by cases a <;> simp [mxb]
theorem mxb_a0 (b : Nat) : mxb b 0 = 0 := by cases b <;> simp [mxb]
theorem mxb_succ (b a : Nat) : mxb (b + 1) (a + 1) = mxb (b + 1) a + mxb b (a + 1) + 1 := by rw [mxb]
theorem wb1_some {l r : Nat → Option Int} {c : Nat → Int} {i k : Nat} {p : Int × Int} (h : wb1 l r c i k = some p) : ∃ x y, l k = some x ∧ r k = some y ∧ p = (x + y + c k, ((i + k : Nat) : Int)) := by
  unfold wb1 at h
  split at h
  · rename_i x y e1 e2
    exact ⟨x, y, e1, e2, (Option.some.inj h).symm⟩
  · cases h
theorem wb1_none {l r : Nat → Option Int} {c : Nat → Int} {i k : Nat} : wb1 l r c i k = none ↔ l k = none ∨ r k = none := by
  unfold wb1
  cases l k <;> cases r k <;> simp
theorem wbo_nil {l r : Nat → Option Int} {c : Nat → Int} {i m : Nat} : wbo l r c i m = [] ↔ ∀ k, k < m → l k = none ∨ r k = none := by
  constructor
  · intro h k hk
    rw [← wb1_none (c := c) (i := i)]
    cases e : wb1 l r c i k with
    | none => rfl
    | some p =>
      have := mem_wbo.mpr ⟨k, hk, e⟩
      rw [h] at this
      cases this
  · intro h
    refine List.eq_nil_iff_forall_not_mem.mpr fun p hp => ?_
    obtain ⟨k, hk, e⟩ := mem_wbo.mp hp
    rw [wb1_none.mpr (h k hk)] at e
    cases e
theorem lwb_none (S R : Nat → Int) : ∀ (n b a i m : Nat), b + a ≤ n → (lwb S R b a i m = none ↔ mxb b a < m)
  | n, b, a, i, 0, _ => by rw [lwb_zero]; simp
  | n, 0, a, i, m + 1, _ => by rw [lwb_b0, mxb_b0]; simp
  | n, b + 1, 0, i, m + 1, _ => by rw [lwb_a0, mxb_a0]; simp
  | 0, b + 1, a + 1, i, m + 1, h => absurd h (by omega)
  | n + 1, b + 1, a + 1, i, m + 1, h => by
    rw [lwb_succ, Option.map_eq_none_iff, bstw, minP_none, wbo_nil, mxb_succ]
    have h1 : ∀ k, lwb S R (b + 1) a i k = none ↔ mxb (b + 1) a < k := fun k => lwb_none S R n (b + 1) a i k (by omega)
    have h2 : ∀ k, lwb S R b (a + 1) (i + k + 1) (m - k) = none ↔ mxb b (a + 1) < m - k := fun k => lwb_none S R n b (a + 1) (i + k + 1) (m - k) (by omega)
    constructor
    · intro hh
      have := hh (min m (mxb (b + 1) a)) (by omega)
      rw [h1, h2] at this
      omega
    · intro hh k hk
      rw [h1, h2]
      omega
theorem lwb_some {S R : Nat → Int} {b a i m : Nat} (h : m ≤ mxb b a) : ∃ x, lwb S R b a i m = some x := by
  cases e : lwb S R b a i m with
  | some x => exact ⟨x, rfl⟩
  | none =>
    have := (lwb_none S R (b + a) b a i m (Nat.le_refl _)).mp e
    omega
/-- the root of the least tree -/
def rtb (S R : Nat → Int) (b a i m : Nat) : Nat := (((bstw S R b a i m).getD (0, 0)).2 - (i : Int)).toNat
theorem bst_some {S R : Nat → Int} {b a i m : Nat} {p : Int × Int} (h : bstw S R b a i m = some p) : ∃ x y, rtb S R b a i m ≤ m ∧ lwb S R (b + 1) a i (rtb S R b a i m) = some x ∧ lwb S R b (a + 1) (i + rtb S R b a i m + 1) (m - rtb S R b a i m) = some y ∧ p = (x + y + cst S R i (m + 1) (rtb S R b a i m), ((i + rtb S R b a i m : Nat) : Int)) := by
  obtain ⟨k, hk, e⟩ := mem_wbo.mp (minP_mem h)
  obtain ⟨x, y, e1, e2, e3⟩ := wb1_some e
  have er : rtb S R b a i m = k := by
    unfold rtb
    rw [h, e3]
    show (((i + k : Nat) : Int) - (i : Int)).toNat = k
    omega
  rw [er]
  exact ⟨x, y, by omega, e1, e2, e3⟩
theorem bst_ex {S R : Nat → Int} {b a i m : Nat} (h : m + 1 ≤ mxb (b + 1) (a + 1)) : ∃ p, bstw S R b a i m = some p := by
  obtain ⟨x, hx⟩ := lwb_some (S := S) (R := R) (i := i) h
  rw [lwb_succ, Option.map_eq_some_iff] at hx
  obtain ⟨p, hp, _⟩ := hx
  exact ⟨p, hp⟩
/-- the tree of least roots within b runs and a writes -/
def ltb (S R : Nat → Int) : Nat → Nat → Nat → Nat → T
  | _, _, _, 0 => .nil
  | 0, _, _, _ + 1 => .nil
  | _ + 1, 0, _, _ + 1 => .nil
  | b + 1, a + 1, i, m + 1 => .node (ltb S R (b + 1) a i (rtb S R b a i m)) (ltb S R b (a + 1) (i + rtb S R b a i m + 1) (m - rtb S R b a i m))
termination_by b a => b + a
theorem ltb_zero (S R : Nat → Int) (b a i : Nat) : ltb S R b a i 0 = .nil := by
  cases b <;> cases a <;> simp [ltb]
theorem ltb_succ (S R : Nat → Int) (b a i m : Nat) : ltb S R (b + 1) (a + 1) i (m + 1) = .node (ltb S R (b + 1) a i (rtb S R b a i m)) (ltb S R b (a + 1) (i + rtb S R b a i m + 1) (m - rtb S R b a i m)) := by rw [ltb]
theorem mxb_of {S R : Nat → Int} {b a i m : Nat} {x : Int} (h : lwb S R b a i m = some x) : m ≤ mxb b a := by
  have := (lwb_none S R (b + a) b a i m (Nat.le_refl _))
  rw [h] at this
  have h2 : ¬ mxb b a < m := fun z => by have := this.mpr z; cases this
  omega
theorem rtb_le {S R : Nat → Int} {b a i m : Nat} (h : m + 1 ≤ mxb (b + 1) (a + 1)) : rtb S R b a i m ≤ m ∧ rtb S R b a i m ≤ mxb (b + 1) a ∧ m - rtb S R b a i m ≤ mxb b (a + 1) := by
  obtain ⟨p, hp⟩ := bst_ex (S := S) (R := R) (i := i) h
  obtain ⟨x, y, h1, h2, h3, _⟩ := bst_some hp
  exact ⟨h1, mxb_of h2, mxb_of h3⟩
theorem ltb_size (S R : Nat → Int) : ∀ (n b a i m : Nat), b + a ≤ n → m ≤ mxb b a → (ltb S R b a i m).size = m
  | n, b, a, i, 0, _, _ => by rw [ltb_zero]; rfl
  | n, 0, a, i, m + 1, _, h => by rw [mxb_b0] at h; omega
  | n, b + 1, 0, i, m + 1, _, h => by rw [mxb_a0] at h; omega
  | 0, b + 1, a + 1, i, m + 1, h, _ => absurd h (by omega)
  | n + 1, b + 1, a + 1, i, m + 1, h, hm => by
    obtain ⟨h1, h2, h3⟩ := rtb_le (S := S) (R := R) (i := i) hm
    rw [ltb_succ, T.size, ltb_size S R n _ _ _ _ (by omega) h2, ltb_size S R n _ _ _ _ (by omega) h3]
    omega
/-- tables of ints and None -/
def dO : Option Int → PyData
  | none => .none
  | some i => .int i
theorem tf_dO (o : Option Int) : Tf (dO o) := by cases o; exact .non; exact .int _
theorem dp_ov {K : PySem.W.Frag} {H : Hp} (o : Option Int) : Dp K H (ov o) (dO o) := by cases o; exact .non; exact .int _
theorem dp_ov_inv {K : PySem.W.Frag} {H : Hp} {v : V} {o : Option Int} (h : Dp K H v (dO o)) : v = ov o := by
  cases o with
  | none => cases h; rfl
  | some i => cases h; rfl
def rowO (T : Nat → Nat → Option Int) (n i : Nat) : List (Option Int) := (List.range (n + 1 - i)).map (T i)
theorem rowO_len (T : Nat → Nat → Option Int) (n i : Nat) : (rowO T n i).length = n + 1 - i := by simp [rowO]
theorem rowO_at {T : Nat → Nat → Option Int} {n i m : Nat} (h : i + m ≤ n) : (rowO T n i)[m]? = some (T i m) := by
  unfold rowO
  rw [List.getElem?_map, List.getElem?_range (by omega)]; rfl
def dRowO (T : Nat → Nat → Option Int) (n i : Nat) : PyData := .tuple ((rowO T n i).map dO)
def dTabO (T : Nat → Nat → Option Int) (n : Nat) : PyData := .tuple ((List.range (n + 1)).map (dRowO T n))
theorem tf_rowO (T : Nat → Nat → Option Int) (n i : Nat) : Tf (dRowO T n i) := .tup fun d hd => by obtain ⟨o, _, rfl⟩ := List.mem_map.mp hd; exact tf_dO o
theorem tf_tabO (T : Nat → Nat → Option Int) (n : Nat) : Tf (dTabO T n) := .tup fun d hd => by obtain ⟨i, _, rfl⟩ := List.mem_map.mp hd; exact tf_rowO T n i
theorem dp_ovs {K : PySem.W.Frag} {H : Hp} : ∀ os : List (Option Int), DpAll K H (os.map ov) (os.map dO)
  | [] => .nil
  | o :: os => .cons (dp_ov o) (dp_ovs os)
theorem dp_ovs_inv {K : PySem.W.Frag} {H : Hp} : ∀ {os : List (Option Int)} {vs : List V}, DpAll K H vs (os.map dO) → vs = os.map ov
  | [], _, .nil => rfl
  | o :: os, _, .cons a b => by
    rw [dp_ov_inv a, dp_ovs_inv b]; rfl
theorem tabO_row {K : PySem.W.Frag} {H : Hp} {v : V} {T : Nat → Nat → Option Int} {n : Nat} (h : Dp K H v (dTabO T n)) : ∃ a xs, v = .ref a ∧ SqT K H a xs ∧ xs.length = n + 1 ∧ ∀ i, i ≤ n → ∃ b, xs[i]? = some (.ref b) ∧ SqT K H b ((rowO T n i).map ov) := by
  obtain ⟨a, xs, rfl, hS, hA⟩ := Dp.tupInv h
  refine ⟨a, xs, rfl, hS, by rw [DpAll.len hA]; simp, fun i hi => ?_⟩
  obtain ⟨x, hx, hD⟩ := DpAll.get hA (i := i) (d := dRowO T n i) (by rw [List.getElem?_map, List.getElem?_range (by omega)]; rfl)
  obtain ⟨b, ys, rfl, hB, hBA⟩ := Dp.tupInv hD
  rw [dp_ovs_inv hBA] at hB
  exact ⟨b, hx, hB⟩
theorem tabO_rd {K : PySem.W.Frag} {H : Hp} {v : V} {T : Nat → Nat → Option Int} {n : Nat} (h : Dp K H v (dTabO T n)) {i m : Nat} (hi : i + m ≤ n) : Rdo K H v i m (T i m) := by
  obtain ⟨a, xs, rfl, hS, _, hr⟩ := tabO_row h
  obtain ⟨b, hb, hB⟩ := hr i (by omega)
  refine ⟨a, xs, b, _, rfl, .inr hS, hb, .inr hB, ?_⟩
  rw [List.getElem?_map, rowO_at hi]; rfl
theorem tabO_rds {K : PySem.W.Frag} {H : Hp} {v u : V} {Tl Tr : Nat → Nat → Option Int} {n : Nat} (hl : Dp K H v (dTabO Tl n)) (hr : Dp K H u (dTabO Tr n)) {i m : Nat} (hi : i + m ≤ n) : RdsO K H v u (Tl i) (fun k => Tr (i + k + 1) (m - 1 - k)) i m :=
  ⟨fun k hk => tabO_rd hl (by omega), fun k hk => tabO_rd hr (by omega)⟩
def ovr (S R : Nat → Int) (Tl Tr : Nat → Nat → Option Int) (i m : Nat) : Option Int := if m = 0 then some 0 else (minP (wbo (Tl i) (fun k => Tr (i + k + 1) (m - 1 - k)) (cst S R i m) i m)).map (·.1)
theorem ovr_lwb (S R : Nat → Int) (b a : Nat) : ovr S R (lwb S R (b + 1) a) (lwb S R b (a + 1)) = lwb S R (b + 1) (a + 1) := by
  funext i m
  cases m with
  | zero => rw [lwb_zero]; rfl
  | succ m => rw [lwb_succ]; rfl
def bare : Nat → Nat → Option Int := fun _ m => if m = 0 then some 0 else none
theorem bare_b0 (S R : Nat → Int) (a : Nat) : lwb S R 0 a = bare := by
  funext i m
  cases m with
  | zero => rw [lwb_zero]; rfl
  | succ m => rw [lwb_b0]; rfl
theorem bare_a0 (S R : Nat → Int) (b : Nat) : lwb S R b 0 = bare := by
  funext i m
  cases m with
  | zero => rw [lwb_zero]; rfl
  | succ m => rw [lwb_a0]; rfl
section
variable {P : Program} {w : World} {K : PySem.W.Frag} {mg : Str → Option Value} {base : Heap}
def sp_least_rootO (K : PySem.W.Frag) : Sp := fun vs H Q _ => ∃ (v u z : V) (ss rs : List Int) (i m : Nat) (lf rg : Nat → Option Int) (p : Int × Int), vs = [v, u, z, .int (i : Int), .int ((i + m : Nat) : Int)] ∧ Sms K H z ss rs ∧ i + m ≤ ss.length ∧ i + m ≤ rs.length ∧ ss.length ≤ 1000 ∧ RdsO K H v u lf rg i m ∧ minP (wbo lf rg (cst (sm ss) (sm rs) i m) i m) = some p ∧
  ∀ H', Same H H' → Q (.int p.2) H'
theorem ok_least_rootO (TX : Tx K mg) : FnOk P w K mg base CX0 3 TX.a_least_root TX.fd_least_root ["lefts", "rights", "sums", "start", "stop"] (sp_least_rootO K) := by
  refine TX.f_least_root.ok sc_least_root (fun vs H Q E h => ?_) (fun cdv A outer s H vs Q E hr h => ?_)
  · obtain ⟨v, u, z, ss, rs, i, m, lf, rg, p, rfl, _⟩ := h; rfl
  · obtain ⟨v, u, z, ss, rs, i, m, lf, rg, p, rfl, hZ, h1, h2, h3, hR, hm, q⟩ := h
    refine ⟨_, (pss_one (ps_ret (pe_ix (k_ixT (K := K) rfl) (pe_callB (id := "min") (cr_minP (K := K) rfl rfl hr.units) (by rfl) TX.b_min (by decide +kernel) (pa_cons (pe_call (ok_works_by_rootO TX) (hr.mono (by decide)) (by rfl) TX.g_works_by_root TX.f_works_by_root.kp TX.bd_works_by_root .nil pass0 (pa_cons (pv 0) (pa_cons (pv 1) (pa_cons (pv 2) (pa_cons (pv 3) (pa_cons (pv 4) pa_nil)))))) pa_nil)) pe_int (fun _ _ => rfl)))), ?_⟩
    refine ⟨_, rfl, _, rfl, _, rfl, _, rfl, _, rfl, v, u, z, ss, rs, i, m, lf, rg, rfl, hZ, h1, h2, h3, hR, fun H1 l us s1 n1 hl hA => ?_⟩
    cases e : wbo lf rg (cst (sm ss) (sm rs) i m) i m with
    | nil => rw [e] at hm; cases hm
    | cons p0 ps =>
      rw [e] at hm hA
      have hm' : PySem.W.minOf p0 ps = p := Option.some.inj hm
      refine ⟨l, us, p0, ps, rfl, .inl (.inl hl), hA, fun b hb => ?_⟩
      rw [hm'] at hb
      exact ⟨b, _, 1, _, rfl, rfl, hb, rfl, q _ s1⟩
def sp_rows_without_trees (K : PySem.W.Frag) : Sp := fun vs H Q _ => ∃ (n : Nat), vs = [.int (n : Int)] ∧ n ≤ 100 ∧ ∀ H' p, Same H H' → Dp K H' (.ref p) (dTabO bare n) → Q (.ref p) H'
theorem bare_row (n i : Nat) (h : i ≤ n) : (rowO bare n i).map ov = V.int 0 :: List.replicate (n - i) V.non := by
  unfold rowO
  rw [show n + 1 - i = n - i + 1 by omega, List.range_succ_eq_map, List.map_cons, List.map_cons, List.map_map, List.map_map]
  congr 1
  refine List.ext_getElem? fun j => ?_
  rw [List.getElem?_map, List.getElem?_replicate]
  by_cases hj : j < n - i
  · rw [List.getElem?_range hj, if_pos hj]; rfl
  · rw [List.getElem?_eq_none (by simp; omega), if_neg hj]; rfl
theorem ok_rows_without_trees (TX : Tx K mg) : FnOk P w K mg base CX0 1 TX.a_rows_without_trees TX.fd_rows_without_trees ["n"] (sp_rows_without_trees K) := by
  refine TX.f_rows_without_trees.ok sc_rows_without_trees (fun vs H Q E h => ?_) (fun cdv A outer s H vs Q E hr h => ?_)
  · obtain ⟨n, rfl, _⟩ := h; rfl
  · obtain ⟨n, rfl, hn, q⟩ := h
    refine ⟨_, (pss_one (ps_ret (pe_callTy (T := "tuple") (k_tupOf (K := K) rfl) (by rfl) TX.b_tuple (by decide +kernel) (pa_cons (pe_lc (own := [("start", 1)]) (by rfl) sc_rows_without_trees.nd (pi_range1 (by rfl) TX.b_range (pa_cons (pe_op op_add (pv 0) pe_int) pa_nil)) (blkOk_by (own := [("start", 1)]) (N := N_rows_without_trees) (sc := defScope s_rows_without_trees) (by decide +kernel)) (fun _ _ _ _ _ => (pg_name (i := 1) sc_rows_without_trees.nd rfl (Or.inl rfl))) (fun _ _ _ _ _ => pts_nil) (fun _ _ _ _ _ => (pe_op (k_catT (K := K) rfl) (pe_tup (pa_cons pe_int pa_nil)) (pe_op (k_repZ (K := K) rfl) (pe_tup (pa_cons pe_non pa_nil)) (pe_op op_sub (pv 0) (pv 1)))))) pa_nil)))), ?_⟩
    refine ⟨_, rfl, _, _, rfl, rfl, _, rfl, by omega, by omega, fun D nD => ?_⟩
    have en : (((n : Int) + 1)).toNat = n + 1 := by omega
    refine lc_all (K := K) walk_range ((List.range (n + 1)).map (dRowO bare n)) (by simp <;> omega) (fun d h => by obtain ⟨i, _, rfl⟩ := List.mem_map.mp h; exact tf_rowO _ _ _) (by omega) nD (fun _ _ => trivial) ?_ ?_ (fun x σ' H' Q Q' h => h _ _) (fun σ' H' Q Q' h => h _ _)
    · rintro i x Hx Hx' hi sx hy d hd R hR
      obtain ⟨rfl, rfl⟩ := hy
      have ei : (0 : Int) + ((i : Nat) : Int) = ((i : Nat) : Int) := by omega
      dsimp only
      rw [ei]
      rw [List.getElem?_map, List.getElem?_range (by omega)] at hd
      cases hd
      have eni : ((n : Int) - ((i : Nat) : Int)) = ((n - i : Nat) : Int) := by omega
      refine ⟨rfl, rfl, sz60 (by simp), fun p1 np1 => ⟨sz60 (by simp), fun p2 np2 => ⟨_, rfl, _, rfl, _, _, rfl, rfl, ?_⟩⟩⟩
      dsimp only
      rw [eni]
      have t1 := same_upd (o := .tup [V.int 0]) np1
      have t2 := same_upd (o := .tup [V.non]) np2
      refine repZ_read (xs := [V.non]) (.inl (.inl upd_same)) (by simp) (by omega) (by simp) fun p3 G3 z3 i3 => ?_
      have er : (List.replicate (n - i) [V.non]).flatten = List.replicate (n - i) V.non := by
        rw [List.flatten_replicate_singleton]
      rw [er] at i3
      refine cat_read (Same.tup (t2.trans z3) (.inl (.inl upd_same))) i3 (by simp; omega) fun p4 G4 z4 i4 => ?_
      refine hR _ _ (((t1.trans t2).trans z3).trans z4) ?_
      rw [List.singleton_append, ← bare_row n i (by omega)] at i4
      exact .tup i4 (dp_ovs _)
    · intro H5 acc s5 ha hA5
      refine ⟨D, _, rfl, .inl ⟨.inl (.inl ha), fun o no => ?_⟩⟩
      exact q _ o (s5.trans (same_upd no)) (.tup (.inl (.inl upd_same)) (DpAll.same (same_upd no) hA5))
def sp_rows_over (K : PySem.W.Frag) : Sp := fun vs H Q _ => ∃ (v u z : V) (ss rs : List Int) (Tl Tr : Nat → Nat → Option Int) (n : Nat), vs = [v, u, z, .int (n : Int)] ∧ Sms K H z ss rs ∧ n = ss.length ∧ n = rs.length ∧ n ≤ 100 ∧ Dp K H v (dTabO Tl n) ∧ Dp K H u (dTabO Tr n) ∧
  ∀ H' p, Same H H' → Dp K H' (.ref p) (dTabO (ovr (sm ss) (sm rs) Tl Tr) n) → Q (.ref p) H'
theorem ok_rows_over (TX : Tx K mg) : FnOk P w K mg base CX0 3 TX.a_rows_over TX.fd_rows_over ["lefts", "rights", "sums", "n"] (sp_rows_over K) := by
  refine TX.f_rows_over.ok sc_rows_over (fun vs H Q E h => ?_) (fun cdv A outer s H vs Q E hr h => ?_)
  · obtain ⟨v, u, z, ss, rs, Tl, Tr, n, rfl, _⟩ := h; rfl
  · obtain ⟨v, u, z, ss, rs, Tl, Tr, n, rfl, hZ, h1, h2, hn, hL, hR, q⟩ := h
    refine ⟨_, (pss_cons (ps_set (i := 4) sc_rows_over.nd rfl (.inl rfl) (pe_lst pa_nil))
      (pss_cons (ps_for PassesOwn.never rfl (pi_range1 (by rfl) TX.b_range (pa_cons (pe_op op_add (pv 3) pe_int) pa_nil)) (pg_name (i := 5) sc_rows_over.nd rfl (.inl rfl))
        (pss_cons (ps_set (i := 6) sc_rows_over.nd rfl (.inl rfl) (pe_lst (pa_cons pe_int pa_nil)))
        (pss_cons (ps_for PassesOwn.never rfl (pi_range2 (by rfl) TX.b_range (pa_cons (pe_op op_add (pv 5) pe_int) (pa_cons (pe_op op_add (pv 3) pe_int) pa_nil))) (pg_name (i := 7) sc_rows_over.nd rfl (.inl rfl))
          (pss_cons (ps_asg (pe_callBK (id := "min") (cr_minPD (K := K) rfl rfl hr.units) (by rfl) TX.b_min (by decide +kernel) (pa_cons (pe_call (ok_works_by_rootO TX) (hr.mono (by decide)) (by rfl) TX.g_works_by_root TX.f_works_by_root.kp TX.bd_works_by_root .nil pass0 (pa_cons (pv 0) (pa_cons (pv 1) (pa_cons (pv 2) (pa_cons (pv 5) (pa_cons (pv 7) pa_nil)))))) pa_nil) (pk_cons (pe_tup (pa_cons pe_non (pa_cons pe_non pa_nil))) pk_nil)) (pg_tup rfl (pgs_cons (pg_name (i := 8) sc_rows_over.nd rfl (.inl rfl)) (pgs_cons (pg_name (i := 9) sc_rows_over.nd rfl (.inl rfl)) pgs_nil))))
          (pss_one (ps_expr (pe_bm PySem.F.plainAttrs_list PySem.F.slot_list_append PySem.F.type_list_append mt_append (pv 6) (pa_cons (pv 8) pa_nil))))))
        (pss_one (ps_expr (pe_bm PySem.F.plainAttrs_list PySem.F.slot_list_append PySem.F.type_list_append mt_append (pv 4) (pa_cons (pe_callTy (T := "tuple") (k_tupOf (K := K) rfl) (by rfl) TX.b_tuple (by decide +kernel) (pa_cons (pv 6) pa_nil)) pa_nil)))))))
      (pss_one (ps_ret (pe_callTy (T := "tuple") (k_tupOf (K := K) rfl) (by rfl) TX.b_tuple (by decide +kernel) (pa_cons (pv 4) pa_nil)))))), ?_⟩
    obtain ⟨TT, hTT⟩ : ∃ TT, TT = ovr (sm ss) (sm rs) Tl Tr := ⟨_, rfl⟩
    rw [← hTT] at q
    have en : (((n : Int) + 1)).toNat = n + 1 := by omega
    refine ⟨sz60 (by simp), fun l nl => ?_⟩
    have s1 := same_upd (o := .lst []) nl
    refine ⟨_, rfl, _, _, rfl, rfl, _, rfl, by omega, by omega, for_range (lo := 0) (fun i σ H' => ∃ y5 y6 y7 y8 y9 us, σ = [some v, some u, some z, some (.int (n : Int)), some (.ref l), y5, y6, y7, y8, y9] ∧ Same H H' ∧ H' l = some (.lst us) ∧ DpAll K H' us ((List.range i).map (dRowO TT n))) ⟨_, _, _, _, _, [], rfl, s1, upd_same, .nil⟩ ?_ ?_⟩
    · rintro i σ H2 hi ⟨y5, y6, y7, y8, y9, us, rfl, s2, hl2, hA2⟩
      rw [en] at hi
      have ei : (0 : Int) + ((i : Nat) : Int) = ((i : Nat) : Int) := by omega
      rw [ei]
      refine ⟨sz60 (by simp), fun r nr => ?_⟩
      have s3 := same_upd (o := .lst [V.int 0]) nr
      have nlr : l ≠ r := fun e => by rw [← e, hl2] at nr; cases nr
      have en2 : ((n : Int) + 1 - (((i : Nat) : Int) + 1)).toNat = n - i := by omega
      refine ⟨_, rfl, _, _, rfl, rfl, _, rfl, _, _, rfl, rfl, _, _, rfl, ⟨by omega, by omega, by omega, by omega⟩, ?_⟩
      refine for_range (lo := ((i : Nat) : Int) + 1) (fun m σ H' => ∃ y7 y8 y9, σ = [some v, some u, some z, some (.int (n : Int)), some (.ref l), some (.int (i : Int)), some (.ref r), y7, y8, y9] ∧ Same H2 H' ∧ H' r = some (.lst (((List.range (m + 1)).map (TT i)).map ov))) ⟨_, _, _, rfl, s3, ?_⟩ ?_ ?_
      · rw [upd_same, hTT]; rfl
      · rintro m σ H4 hm ⟨y7, y8, y9, rfl, s4, hr4⟩
        rw [en2] at hm
        have em : ((i : Nat) : Int) + 1 + ((m : Nat) : Int) = ((i + (m + 1) : Nat) : Int) := by omega
        rw [em]
        have s24 := s2.trans s4
        refine ⟨v, rfl, u, rfl, z, rfl, _, rfl, _, rfl, v, u, z, ss, rs, i, m + 1, Tl i, (fun k => Tr (i + k + 1) (m + 1 - 1 - k)), rfl, hZ.same s24, by omega, by omega, by omega, tabO_rds (Dp.same s24 hL) (Dp.same s24 hR) (by omega), fun H5 p us' s5 np hp hA5 => ?_⟩
        refine ⟨sz60 (by simp), fun dd ndd => ?_⟩
        have s6 := same_upd (o := .tup [V.non, V.non]) ndd
        have hr6 := s6 _ _ (s5 _ _ hr4)
        have step : ∀ H7, Same H5 H7 → ∀ x, x = ov (TT i (m + 1)) → Same H2 (upd H7 r (.lst (((List.range (m + 1)).map (TT i)).map ov ++ [x]))) ∧ (upd H7 r (.lst (((List.range (m + 1)).map (TT i)).map ov ++ [x]))) r = some (.lst (((List.range (m + 1 + 1)).map (TT i)).map ov)) := fun H7 s7 x hx => by
          refine ⟨Same.mut ((s4.trans s5).trans s7) nr, ?_⟩
          rw [upd_same, List.range_succ (n := m + 1), List.map_append, List.map_append, hx]; rfl
        have hT : TT i (m + 1) = (minP (wbo (Tl i) (fun k => Tr (i + k + 1) (m + 1 - 1 - k)) (cst (sm ss) (sm rs) i (m + 1)) i (m + 1))).map (·.1) := by
          rw [hTT]; rfl
        refine ⟨p, us', _, .ref dd, rfl, rfl, .inl (.inl (s6 _ _ hp)), DpAll.same s6 hA5, fun h0 => ?_, fun pr hpr b hb => ?_⟩
        · refine ⟨dd, _, rfl, .inl (.inl upd_same), rfl, _, _, rfl, _, _, rfl, rfl, ?_⟩
          refine ⟨.ref r, rfl, .inl ⟨rfl, _, .inl (.inl hr6)⟩, _, rfl, r, _, _, rfl, rfl, hr6, sz61 (by simp; omega), ?_⟩
          exact ⟨_, _, _, rfl, step _ s6 _ (by rw [hT, h0]; rfl)⟩
        · refine ⟨b, _, rfl, hb, rfl, _, _, rfl, _, _, rfl, rfl, ?_⟩
          refine ⟨.ref r, rfl, .inl ⟨rfl, _, .inl (.inl hr6)⟩, _, rfl, r, _, _, rfl, rfl, hr6, sz61 (by simp; omega), ?_⟩
          exact ⟨_, _, _, rfl, step _ s6 _ (by rw [hT, hpr]; rfl)⟩
      · rintro σ H4 ⟨y7, y8, y9, rfl, s4, hr4⟩
        rw [en2, show n - i + 1 = n + 1 - i by omega] at hr4
        have hl4 := s4 _ _ hl2
        refine ⟨.ref l, rfl, .inl ⟨rfl, _, .inl (.inl hl4)⟩, .ref r, rfl, r, _, rfl, .inl ⟨.inl (.inl hr4), fun o no => ?_⟩⟩
        have s5 := same_upd (o := .tup (((List.range (n + 1 - i)).map (TT i)).map ov)) no
        have hl5 := s5 _ _ hl4
        have hul := DpAll.len hA2
        rw [List.length_map, List.length_range] at hul
        refine ⟨l, us, _, rfl, rfl, hl5, sz61 (by omega), ?_⟩
        refine ⟨_, _, _, _, _, us ++ [V.ref o], rfl, Same.mut ((s2.trans s4).trans s5) nl, upd_same, ?_⟩
        rw [List.range_succ, List.map_append]
        refine DpAll.keep (But.keep But.upd hl5) (fun d hd => ?_) (DpAll.append (DpAll.same (s4.trans s5) hA2) (.cons (.tup (.inl (.inl upd_same)) (dp_ovs _)) .nil))
        rcases List.mem_append.mp hd with hd | hd
        · obtain ⟨j, _, rfl⟩ := List.mem_map.mp hd
          exact tf_rowO _ _ _
        · rw [List.mem_singleton.mp hd]
          exact tf_rowO _ _ _
    · rintro σ H2 ⟨y5, y6, y7, y8, y9, us, rfl, s2, hl2, hA2⟩
      rw [en] at hA2
      refine ⟨.ref l, rfl, l, _, rfl, .inl ⟨.inl (.inl hl2), fun o no => ?_⟩⟩
      exact q _ o (s2.trans (same_upd no)) (.tup (.inl (.inl upd_same)) (DpAll.same (same_upd no) hA2))
end
def dRowG (S R : Nat → Int) (n c b : Nat) : PyData := .tuple ((List.range c).map fun a => dTabO (lwb S R b a) n)
/-- the tables within all budgets up to (k, c) -/
def dGrid (S R : Nat → Int) (n k c : Nat) : PyData := .tuple ((List.range (k + 1)).map (dRowG S R n (c + 1)))
theorem tf_rowG (S R : Nat → Int) (n c b : Nat) : Tf (dRowG S R n c b) := .tup fun d hd => by obtain ⟨a, _, rfl⟩ := List.mem_map.mp hd; exact tf_tabO _ _
theorem tf_grid (S R : Nat → Int) (n k c : Nat) : Tf (dGrid S R n k c) := .tup fun d hd => by obtain ⟨a, _, rfl⟩ := List.mem_map.mp hd; exact tf_rowG _ _ _ _ _
/-- v[b][a] is u -/
theorem grid_at {K : PySem.W.Frag} {H : Hp} {v : V} {S R : Nat → Int} {n k c b a : Nat} (h : Dp K H v (dGrid S R n k c)) (hb : b ≤ k) (ha : a ≤ c) : ∃ p xs r ys t, v = .ref p ∧ SqT K H p xs ∧ xs[b]? = some (.ref r) ∧ SqT K H r ys ∧ ys[a]? = some (.ref t) ∧ Dp K H (.ref t) (dTabO (lwb S R b a) n) := by
  obtain ⟨p, xs, rfl, hS, hA⟩ := Dp.tupInv h
  obtain ⟨x, hx, hD⟩ := DpAll.get hA (i := b) (d := dRowG S R n (c + 1) b) (by rw [List.getElem?_map, List.getElem?_range (by omega)]; rfl)
  obtain ⟨r, ys, rfl, hS2, hA2⟩ := Dp.tupInv hD
  obtain ⟨y, hy, hD2⟩ := DpAll.get hA2 (i := a) (d := dTabO (lwb S R b a) n) (by rw [List.getElem?_map, List.getElem?_range (by omega)]; rfl)
  obtain ⟨t, zs, rfl, hS3, hA3⟩ := Dp.tupInv hD2
  exact ⟨p, xs, r, ys, t, rfl, hS, hx, hS2, hy, .tup hS3 hA3⟩
def TbAt (K : PySem.W.Frag) (H : Hp) (A : Addr) (as : List Addr) (S R : Nat → Int) (n : Nat) (f : Nat → Nat) : Prop :=
  H A = some (.lst (as.map V.ref)) ∧ as.Nodup ∧ (∀ x, x ∈ as → x ≠ A) ∧ ∀ j x, as[j]? = some x → ∃ us, H x = some (.lst us) ∧ DpAll K H us ((List.range (f j)).map fun a => dTabO (lwb S R j a) n)
section
variable {K : PySem.W.Frag} {H H' : Hp} {A : Addr} {as : List Addr} {S R : Nat → Int} {n : Nat} {f g : Nat → Nat}
theorem TbAt.same (h : TbAt K H A as S R n f) (e : Same H H') : TbAt K H' A as S R n f :=
  ⟨e _ _ h.1, h.2.1, h.2.2.1, fun j x hx => by
    obtain ⟨us, h1, h2⟩ := h.2.2.2 j x hx
    exact ⟨us, e _ _ h1, DpAll.same e h2⟩⟩
theorem TbAt.congr (h : TbAt K H A as S R n f) (e : ∀ j, j < as.length → f j = g j) : TbAt K H A as S R n g :=
  ⟨h.1, h.2.1, h.2.2.1, fun j x hx => by
    rw [← e j (List.getElem?_eq_some_iff.mp hx).1]
    exact h.2.2.2 j x hx⟩
theorem tf_tabs {m j : Nat} : ∀ d, d ∈ (List.range m).map (fun a => dTabO (lwb S R j a) n) → Tf d := fun d hd => by
  obtain ⟨a, _, rfl⟩ := List.mem_map.mp hd
  exact tf_tabO _ _
theorem TbAt.row (h : TbAt K H A as S R n f) {p : Addr} (hp : H p = none) (hf : f as.length = 0) : TbAt K (upd (upd H p (.lst [])) A (.lst (as.map V.ref ++ [V.ref p]))) A (as ++ [p]) S R n f := by
  obtain ⟨h1, h2, h3, h4⟩ := h
  have s1 := same_upd (o := .lst []) hp
  have npA : p ≠ A := fun e => by rw [e, h1] at hp; cases hp
  have kp : Keep K (upd H p (.lst [])) (upd (upd H p (.lst [])) A (.lst (as.map V.ref ++ [V.ref p]))) := But.keep But.upd (s1 _ _ h1)
  refine ⟨by rw [upd_same, List.map_append]; rfl, ?_, ?_, ?_⟩
  · rw [List.nodup_append]
    refine ⟨h2, by simp, fun x hx y hy => ?_⟩
    rw [List.mem_singleton.mp hy]
    intro e
    obtain ⟨j, hj⟩ := List.mem_iff_getElem?.mp hx
    obtain ⟨us, h5, _⟩ := h4 j x hj
    rw [← e, h5] at hp; cases hp
  · intro x hx
    rcases List.mem_append.mp hx with hx | hx
    · exact h3 x hx
    · rw [List.mem_singleton.mp hx]; exact npA
  · intro j x hx
    by_cases hj : j < as.length
    · rw [List.getElem?_append_left hj] at hx
      obtain ⟨us, h5, h6⟩ := h4 j x hx
      refine ⟨us, by rw [upd_ne (h3 x (List.mem_of_getElem? hx))]; exact s1 _ _ h5, DpAll.keep kp tf_tabs (DpAll.same s1 h6)⟩
    · rw [List.getElem?_append_right (by omega)] at hx
      have hj0 : j - as.length = 0 := by
        have := (List.getElem?_eq_some_iff.mp hx).1
        simp at this
        omega
      rw [hj0] at hx
      cases hx
      refine ⟨[], by rw [upd_ne npA]; exact upd_same, ?_⟩
      rw [show j = as.length by omega, hf]
      exact .nil
theorem TbAt.add (h : TbAt K H A as S R n f) {b : Nat} {x t : Addr} {us : List V} (hx : as[b]? = some x) (hu : H x = some (.lst us)) (ht : Dp K H (.ref t) (dTabO (lwb S R b (f b)) n)) : TbAt K (upd H x (.lst (us ++ [.ref t]))) A as S R n (fun j => if j = b then f b + 1 else f j) := by
  obtain ⟨h1, h2, h3, h4⟩ := h
  have kp : Keep K H (upd H x (.lst (us ++ [.ref t]))) := But.keep But.upd hu
  have hm := List.mem_of_getElem? hx
  refine ⟨by rw [upd_ne (h3 x hm).symm]; exact h1, h2, h3, fun j y hy => ?_⟩
  by_cases e : j = b
  · subst e
    rw [hx] at hy
    cases hy
    obtain ⟨us', h5, h6⟩ := h4 j x hx
    rw [hu] at h5
    cases h5
    refine ⟨us ++ [.ref t], upd_same, ?_⟩
    dsimp only
    rw [if_pos rfl, List.range_succ, List.map_append]
    refine DpAll.keep kp (fun d hd => ?_) (DpAll.append h6 (.cons ht .nil))
    rcases List.mem_append.mp hd with hd | hd
    · exact tf_tabs d hd
    · exact tf_tabs (m := f j + 1) d (by
        rw [List.mem_singleton.mp hd]
        exact List.mem_map.mpr ⟨f j, List.mem_range.mpr (by omega), rfl⟩)
  · obtain ⟨us', h5, h6⟩ := h4 j y hy
    have hne : y ≠ x := fun ey => by
      subst ey
      exact e ((List.getElem?_inj (List.getElem?_eq_some_iff.mp hy).1 h2).mp (hy.trans hx.symm))
    dsimp only
    rw [if_neg e]
    exact ⟨us', by rw [upd_ne hne]; exact h5, DpAll.keep kp tf_tabs h6⟩
theorem TbAt.rd (h : TbAt K H A as S R n f) {b a : Nat} (hb : b < as.length) (ha : a < f b) : ∃ x us t, as[b]? = some x ∧ H x = some (.lst us) ∧ us[a]? = some (.ref t) ∧ Dp K H (.ref t) (dTabO (lwb S R b a) n) := by
  obtain ⟨us, h5, h6⟩ := h.2.2.2 b as[b] (List.getElem?_eq_getElem hb)
  obtain ⟨y, hy, hD⟩ := DpAll.get h6 (i := a) (d := dTabO (lwb S R b a) n) (by rw [List.getElem?_map, List.getElem?_range ha]; rfl)
  obtain ⟨t, zs, rfl, hS3, hA3⟩ := Dp.tupInv hD
  exact ⟨as[b], us, t, List.getElem?_eq_getElem hb, h5, hy, .tup hS3 hA3⟩
end
section
variable {P : Program} {w : World} {K : PySem.W.Frag} {mg : Str → Option Value} {base : Heap}
def sp_least_tables (K : PySem.W.Frag) : Sp := fun vs H Q _ => ∃ (a b : Addr) (ss rs : List Int) (k c : Nat), vs = [.ref a, .ref b, .int (k : Int), .int (c : Int)] ∧ SqT K H a (ss.map V.int) ∧ SqT K H b (rs.map V.int) ∧ ss.length = rs.length ∧ ss.length ≤ 60 ∧ k ≤ 60 ∧ c ≤ 60 ∧ ∀ H' p, Same H H' → Dp K H' (.ref p) (dGrid (sm ss) (sm rs) ss.length k c) → Q (.ref p) H'
theorem ok_least_tables (TX : Tx K mg) : FnOk P w K mg base CX0 4 TX.a_least_tables TX.fd_least_tables ["sizes", "reads", "k", "c"] (sp_least_tables K) := by
  refine TX.f_least_tables.ok sc_least_tables (fun vs H Q E h => ?_) (fun cdv A outer s H vs Q E hr h => ?_)
  · obtain ⟨a, b, ss, rs, k, c, rfl, _⟩ := h; rfl
  · obtain ⟨a, b, ss, rs, k, c, rfl, hA, hB, he, h1, hk, hc, q⟩ := h
    refine ⟨_, (pss_cons (ps_set (i := 4) sc_least_tables.nd rfl (.inl rfl) (pe_callB (id := "len") (k_len (K := K) rfl) (by rfl) TX.b_len (by decide +kernel) (pa_cons (pv 0) pa_nil)))
      (pss_cons (ps_set (i := 5) sc_least_tables.nd rfl (.inl rfl) (pe_call (ok_load_sums TX) (hr.mono (by decide)) (by rfl) TX.g_load_sums TX.f_load_sums.kp TX.bd_load_sums .nil pass0 (pa_cons (pv 0) (pa_cons (pv 1) pa_nil))))
      (pss_cons (ps_set (i := 6) sc_least_tables.nd rfl (.inl rfl) (pe_lst pa_nil))
      (pss_cons (ps_for PassesOwn.never rfl (pi_range1 (by rfl) TX.b_range (pa_cons (pe_op op_add (pv 2) pe_int) pa_nil)) (pg_name (i := 7) sc_least_tables.nd rfl (.inl rfl))
        (pss_cons (ps_expr (pe_bm PySem.F.plainAttrs_list PySem.F.slot_list_append PySem.F.type_list_append mt_append (pv 6) (pa_cons (pe_lst pa_nil) pa_nil)))
        (pss_one (ps_for PassesOwn.never rfl (pi_range1 (by rfl) TX.b_range (pa_cons (pe_op op_add (pv 3) pe_int) pa_nil)) (pg_name (i := 8) sc_least_tables.nd rfl (.inl rfl))
          (pss_one (ps_if (PW.pt (pw_or (pt_cmpR op_eq (pv 7) pe_int (nomark _)) (pw_or1 (pt_cmpR op_eq (pv 8) pe_int (nomark _)))))
            (pss_one (ps_expr (pe_bm PySem.F.plainAttrs_list PySem.F.slot_list_append PySem.F.type_list_append mt_append (pe_ix (k_ixL (K := K) rfl) (pv 6) (pv 7) (fun _ _ => rfl)) (pa_cons (pe_call (ok_rows_without_trees TX) (hr.mono (by decide)) (by rfl) TX.g_rows_without_trees TX.f_rows_without_trees.kp TX.bd_rows_without_trees .nil pass0 (pa_cons (pv 4) pa_nil)) pa_nil))))
            (pss_one (ps_expr (pe_bm PySem.F.plainAttrs_list PySem.F.slot_list_append PySem.F.type_list_append mt_append (pe_ix (k_ixL (K := K) rfl) (pv 6) (pv 7) (fun _ _ => rfl)) (pa_cons (pe_call (ok_rows_over TX) (hr.mono (by decide)) (by rfl) TX.g_rows_over TX.f_rows_over.kp TX.bd_rows_over .nil pass0 (pa_cons (pe_ix (k_ixL (K := K) rfl) (pe_ix (k_ixL (K := K) rfl) (pv 6) (pv 7) (fun _ _ => rfl)) (pe_op op_sub (pv 8) pe_int) (fun _ _ => rfl)) (pa_cons (pe_ix (k_ixL (K := K) rfl) (pe_ix (k_ixL (K := K) rfl) (pv 6) (pe_op op_sub (pv 7) pe_int) (fun _ _ => rfl)) (pv 8) (fun _ _ => rfl)) (pa_cons (pv 5) (pa_cons (pv 4) pa_nil))))) pa_nil))))))))))
      (pss_one (ps_ret (pe_callTy (T := "tuple") (k_tupOf (K := K) rfl) (by rfl) TX.b_tuple (by decide +kernel) (pa_cons (pe_lc (own := [("row", 9)]) (by rfl) sc_least_tables.nd (k_piL (K := K) rfl (pv 6)) (blkOk_by (own := [("row", 9)]) (N := N_least_tables) (sc := defScope s_least_tables) (by decide +kernel)) (fun _ _ _ _ _ => (pg_name (i := 9) sc_least_tables.nd rfl (Or.inl rfl))) (fun _ _ _ _ _ => pts_nil) (fun _ _ _ _ _ => (pe_callTy (T := "tuple") (k_tupOf (K := K) rfl) (by rfl) TX.b_tuple (by decide +kernel) (pa_cons (pv 9) pa_nil)))) pa_nil)))))))), ?_⟩
    obtain ⟨n, hn⟩ : ∃ n, n = ss.length := ⟨_, rfl⟩
    have hlen : ((ss.map V.int).length : Int) = (n : Int) := by rw [List.length_map, hn]
    rw [← hn] at q h1
    refine ⟨.ref a, rfl, a, _, rfl, .inr hA, ?_⟩
    rw [hlen]
    refine ⟨.ref a, rfl, .ref b, rfl, a, b, ss, rs, rfl, hA, hB, by omega, by omega, fun H1 z s1 hZ => ?_⟩
    refine ⟨sz60 (by simp), fun Ad nA => ?_⟩
    have s2 := same_upd (o := .lst []) nA
    have ek : (((k : Int) + 1)).toNat = k + 1 := by omega
    have ec : (((c : Int) + 1)).toNat = c + 1 := by omega
    refine ⟨_, rfl, _, _, rfl, rfl, _, rfl, by omega, by omega, for_range (lo := 0) (fun x σ H' => ∃ y7 y8 y9 as, σ = [some (.ref a), some (.ref b), some (.int (k : Int)), some (.int (c : Int)), some (.int (n : Int)), some (.ref z), some (.ref Ad), y7, y8, y9] ∧ Same H1 H' ∧ as.length = x ∧ (∀ r, r ∈ as → H1 r = none) ∧ TbAt K H' Ad as (sm ss) (sm rs) n (fun j => if j < x then c + 1 else 0)) ⟨_, _, _, [], rfl, s2, rfl, (by simp), upd_same, List.nodup_nil, (by simp), (by simp)⟩ ?_ ?_⟩
    · rintro x σ H3 hx ⟨y7, y8, y9, as, rfl, s3, hal, hfr, hT3⟩
      rw [ek] at hx
      have ex : (0 : Int) + ((x : Nat) : Int) = ((x : Nat) : Int) := by omega
      rw [ex]
      refine ⟨.ref Ad, rfl, .inl ⟨rfl, _, .inl (.inl hT3.1)⟩, sz60 (by simp), fun r nr => ?_⟩
      have s4 := same_upd (o := .lst []) nr
      refine ⟨Ad, _, _, rfl, rfl, s4 _ _ hT3.1, sz61 (by rw [List.length_map]; omega), ?_⟩
      have hT4 := hT3.row nr (by rw [hal]; simp)
      have s14 : Same H1 (upd (upd H3 r (.lst [])) Ad (.lst (as.map V.ref ++ [V.ref r]))) := Same.mut (s3.trans s4) nA
      generalize upd (upd H3 r (.lst [])) Ad (.lst (as.map V.ref ++ [V.ref r])) = H4 at hT4 s14
      have hfr4 : ∀ y, y ∈ as ++ [r] → H1 y = none := fun y hy => by
        rcases List.mem_append.mp hy with hy | hy
        · exact hfr y hy
        · rw [List.mem_singleton.mp hy]; exact s3.free nr
      have hal4 : (as ++ [r]).length = x + 1 := by simp [hal]
      have hax : (as ++ [r])[x]? = some r := by rw [List.getElem?_append_right (by omega), hal]; simp
      have hrA : r ≠ Ad := hT4.2.2.1 r (by simp)
      refine ⟨_, rfl, _, _, rfl, rfl, _, rfl, by omega, by omega, for_range (lo := 0) (fun y σ H' => ∃ y8 y9, σ = [some (.ref a), some (.ref b), some (.int (k : Int)), some (.int (c : Int)), some (.int (n : Int)), some (.ref z), some (.ref Ad), some (.int (x : Int)), y8, y9] ∧ Same H1 H' ∧ TbAt K H' Ad (as ++ [r]) (sm ss) (sm rs) n (fun j => if j < x then c + 1 else if j = x then y else 0)) ⟨_, _, rfl, s14, hT4.congr fun j hj => ?_⟩ ?_ ?_⟩
      · split <;> (try split) <;> omega
      · rintro y σ H5 hy ⟨y8, y9, rfl, s5, hT5⟩
        rw [ec] at hy
        have ey : (0 : Int) + ((y : Nat) : Int) = ((y : Nat) : Int) := by omega
        rw [ey]
        have atx : atI ((as ++ [r]).map V.ref) ((x : Nat) : Int) = some (.ref r) := atI_nat (by rw [List.getElem?_map, hax]; rfl)
        have fin : ∀ H6 t us, Same H5 H6 → H6 r = some (.lst us) → Dp K H6 (.ref t) (dTabO (lwb (sm ss) (sm rs) x y) n) → Same H1 (upd H6 r (.lst (us ++ [.ref t]))) ∧ TbAt K (upd H6 r (.lst (us ++ [.ref t]))) Ad (as ++ [r]) (sm ss) (sm rs) n (fun j => if j < x then c + 1 else if j = x then y + 1 else 0) := fun H6 t us s6 hu hD => by
          refine ⟨Same.mut (s5.trans s6) (hfr4 r (by simp)), ?_⟩
          have := (hT5.same s6).add (t := t) hax hu (by
            have e1 : (if x < x then c + 1 else if x = x then y else 0) = y := by rw [if_neg (by omega), if_pos rfl]
            rw [e1]; exact hD)
          refine this.congr fun j hj => ?_
          by_cases e : j = x
          · subst e
            rw [if_pos rfl, if_neg (by omega), if_pos rfl, if_neg (by omega), if_pos rfl]
          · rw [if_neg e, if_neg e, if_neg e]
        obtain ⟨us, hu, hA5⟩ := hT5.2.2.2 x r hax
        have hul := DpAll.len hA5
        rw [List.length_map, List.length_range] at hul
        dsimp only at hul
        rw [if_neg (by omega), if_pos rfl] at hul
        have putD : ∀ H6, Same H5 H6 → ∀ p, Dp K H6 (.ref p) (dTabO (lwb (sm ss) (sm rs) x y) n) → H6 r = some (.lst us) ∧ us.length < sizeLine := fun H6 s6 p _ => ⟨s6 _ _ hu, sz61 (by omega)⟩
        by_cases h0 : x = 0 ∨ y = 0
        · have eb : lwb (sm ss) (sm rs) x y = bare := by
            rcases h0 with h | h
            · rw [h]; exact bare_b0 _ _ _
            · rw [h]; exact bare_a0 _ _ _
          have body : ∀ H5', H5' = H5 → True := fun _ _ => trivial
          refine ⟨_, rfl, rfl, _, rfl, ?_⟩
          by_cases hx0 : x = 0
          · refine iteB1 (by simp [hx0]) (iteT ?_)
            refine ⟨.ref Ad, rfl, _, rfl, Ad, _, _, .ref r, rfl, rfl, .inl (.inl hT5.1), atx, .inl ⟨rfl, _, .inl (.inl hu)⟩, _, rfl, n, rfl, by omega, fun H6 p s6 hD => ?_⟩
            rw [← eb] at hD
            exact ⟨r, us, _, rfl, rfl, (putD H6 s6 p hD).1, (putD H6 s6 p hD).2, _, _, rfl, fin H6 p us s6 (s6 _ _ hu) hD⟩
          · refine iteB0 (by simp [hx0]) ⟨_, rfl, rfl, _, rfl, iteB1 (by simp; omega) ?_⟩
            refine ⟨.ref Ad, rfl, _, rfl, Ad, _, _, .ref r, rfl, rfl, .inl (.inl hT5.1), atx, .inl ⟨rfl, _, .inl (.inl hu)⟩, _, rfl, n, rfl, by omega, fun H6 p s6 hD => ?_⟩
            rw [← eb] at hD
            exact ⟨r, us, _, rfl, rfl, (putD H6 s6 p hD).1, (putD H6 s6 p hD).2, _, _, rfl, fin H6 p us s6 (s6 _ _ hu) hD⟩
        · obtain ⟨x', rfl⟩ : ∃ x', x = x' + 1 := ⟨x - 1, by omega⟩
          obtain ⟨y', rfl⟩ : ∃ y', y = y' + 1 := ⟨y - 1, by omega⟩
          refine ⟨_, rfl, rfl, _, rfl, iteB0 (by simp; omega) ⟨_, rfl, rfl, _, rfl, iteB0 (by simp; omega) ?_⟩⟩
          have ex1 : ((x' + 1 : Nat) : Int) - 1 = ((x' : Nat) : Int) := by omega
          have ey1 : ((y' + 1 : Nat) : Int) - 1 = ((y' : Nat) : Int) := by omega
          obtain ⟨r1, us1, t1, e1, e2, e3, hDl⟩ := hT5.rd (b := x' + 1) (a := y') (by omega) (by rw [if_neg (by omega), if_pos rfl]; omega)
          rw [hax] at e1
          cases e1
          rw [hu] at e2
          cases e2
          obtain ⟨r2, us2, t2, f1, f2, f3, hDr⟩ := hT5.rd (b := x') (a := y' + 1) (by omega) (by rw [if_pos (by omega)]; omega)
          refine ⟨.ref Ad, rfl, _, rfl, Ad, _, _, .ref r, rfl, rfl, .inl (.inl hT5.1), atx, .inl ⟨rfl, _, .inl (.inl hu)⟩, ?_⟩
          refine ⟨.ref Ad, rfl, _, rfl, Ad, _, _, .ref r, rfl, rfl, .inl (.inl hT5.1), atx, _, rfl, _, _, rfl, rfl, r, _, _, .ref t1, rfl, rfl, .inl (.inl hu), (by rw [ey1]; exact atI_nat e3), ?_⟩
          refine ⟨.ref Ad, rfl, _, rfl, _, _, rfl, rfl, Ad, _, _, .ref r2, rfl, rfl, .inl (.inl hT5.1), (by rw [ex1]; exact atI_nat (by rw [List.getElem?_map, f1]; rfl)), _, rfl, r2, _, _, .ref t2, rfl, rfl, .inl (.inl f2), atI_nat f3, ?_⟩
          refine ⟨_, rfl, _, rfl, .ref t1, .ref t2, .ref z, ss, rs, lwb (sm ss) (sm rs) (x' + 1) y', lwb (sm ss) (sm rs) x' (y' + 1), n, rfl, hZ.same s5, hn, by omega, by omega, hDl, hDr, fun H6 p s6 hD => ?_⟩
          rw [ovr_lwb] at hD
          exact ⟨r, us, _, rfl, rfl, (putD H6 s6 p hD).1, (putD H6 s6 p hD).2, _, _, rfl, fin H6 p us s6 (s6 _ _ hu) hD⟩
      · rintro σ H5 ⟨y8, y9, rfl, s5, hT5⟩
        rw [ec] at hT5
        refine ⟨_, _, _, as ++ [r], rfl, s5, hal4, hfr4, hT5.congr fun j hj => ?_⟩
        split <;> split <;> (try split) <;> omega
    · rintro σ H3 ⟨y7, y8, y9, as, rfl, s3, hal, hfr, hT3⟩
      rw [ek] at hal hT3
      refine ⟨.ref Ad, rfl, Ad, rfl, ⟨_, .inl (.inl hT3.1)⟩, fun D2 nD2 => ?_⟩
      refine lc_all (K := K) (walk_list (xs := as.map V.ref)) ((List.range (k + 1)).map (dRowG (sm ss) (sm rs) n (c + 1))) (by simp [hal]) (fun d h => by obtain ⟨i, _, rfl⟩ := List.mem_map.mp h; exact tf_rowG _ _ _ _ _) (by rw [List.length_map]; omega) nD2 (fun H' s' => s'.seq (.inl (.inl hT3.1))) ?_ ?_ (fun x σ' H' Q Q' h => h _ _) (fun σ' H' Q Q' h => h _ _)
      · rintro i x Hx Hx' hi sx ⟨rfl, hx⟩ d hd R hR
        rw [List.getElem?_map, Option.map_eq_some_iff] at hx
        obtain ⟨r, hr1, rfl⟩ := hx
        rw [List.length_map, hal] at hi
        rw [List.getElem?_map, List.getElem?_range hi] at hd
        cases hd
        obtain ⟨us, hu, hA5⟩ := hT3.2.2.2 i r hr1
        dsimp only at hA5
        rw [if_pos hi] at hA5
        refine ⟨rfl, rfl, .ref r, rfl, r, _, rfl, .inl ⟨.inl (.inl (sx _ _ hu)), fun l nl => hR _ _ (same_upd nl) (.tup (.inl (.inl upd_same)) (DpAll.same (sx.trans (same_upd nl)) hA5))⟩⟩
      · intro H5 acc s5 ha hA5
        refine ⟨D2, _, rfl, .inl ⟨.inl (.inl ha), fun o no => ?_⟩⟩
        exact q _ o (((s1.trans s3).trans s5).trans (same_upd no)) (.tup (.inl (.inl upd_same)) (DpAll.same (same_upd no) hA5))
end
section
variable {P : Program} {w : World} {K : PySem.W.Frag} {mg : Str → Option Value} {base : Heap}
def sp_check_budgets (K : PySem.W.Frag) : Sp := fun vs H Q _ => ∃ k c m : Int, vs = [.int k, .int c, .int m] ∧ 0 ≤ k ∧ k ≤ m ∧ 0 ≤ c ∧ c ≤ m ∧ ∀ H', Same H H' → Q .non H'
theorem ok_check_budgets (TX : Tx K mg) : FnOk P w K mg base CX0 4 TX.a_check_budgets TX.fd_check_budgets ["k", "c", "most"] (sp_check_budgets K) := by
  refine TX.f_check_budgets.ok sc_check_budgets (fun vs H Q E h => ?_) (fun cdv A outer s H vs Q E hr h => ?_)
  · obtain ⟨k, c, m, rfl, _⟩ := h; rfl
  · obtain ⟨k, c, m, rfl, k0, k1, c0, c1, q⟩ := h
    refine ⟨_, (pss_one (ps_for PassesOwn.never rfl (k_piT (K := K) rfl (pe_tup (pa_cons (pv 0) (pa_cons (pv 1) pa_nil)))) (pg_name (i := 3) sc_check_budgets.nd rfl (.inl rfl))
        (pss_one (ps_if (pt_not (pt_val (pe_call (ok_is_count_up_to TX) (hr.mono (by decide)) (by rfl) TX.g_is_count_up_to TX.f_is_count_up_to.kp TX.bd_is_count_up_to .nil pass0 (pa_cons (pv 3) (pa_cons (pv 2) pa_nil)))))
          (pss_one ps_never)
          pss_nil)))), ?_⟩
    refine ⟨_, rfl, _, rfl, sz60 (by simp), fun t nt => ⟨t, rfl, ⟨_, .inl (.inl upd_same)⟩, for_tup (K := K) (xs := [V.int k, V.int c]) (fun i σ H' => H' = upd H t (.tup [V.int k, V.int c]) ∧ ∃ y, σ = [some (.int k), some (.int c), some (.int m), y]) ⟨rfl, none, rfl⟩ (fun i σ H' _ h => by rw [h.1]; exact .inl (.inl upd_same)) ?_ ?_⟩⟩
    · rintro i x σ H' hx ⟨rfl, y, rfl⟩
      have hb : ∃ b : Int, x = .int b ∧ 0 ≤ b ∧ b ≤ m := by
        match i, hx with
        | 0, hx => cases hx; exact ⟨k, rfl, k0, k1⟩
        | 1, hx => cases hx; exact ⟨c, rfl, c0, c1⟩
        | i + 2, hx => simp at hx
      obtain ⟨b, rfl, b0, b1⟩ := hb
      exact ⟨_, rfl, _, rfl, _, _, rfl, true, by rw [decide_eq_true b0, decide_eq_true b1]; rfl, iteF ⟨rfl, _, rfl⟩⟩
    · rintro σ H' ⟨rfl, y, rfl⟩
      exact q _ (same_upd nt)
end
section
variable {P : Program} {w : World} {K : PySem.W.Frag} {mg : Str → Option Value} {base : Heap}
def sp_check_arguments (K : PySem.W.Frag) : Sp := fun vs H Q _ => ∃ (a b : Addr) (ss rs : List Int) (k c : Nat), vs = [.ref a, .ref b, .int (k : Int), .int (c : Int)] ∧ SqT K H a (ss.map V.int) ∧ SqT K H b (rs.map V.int) ∧ Lds ss ∧ Lds rs ∧ ss.length = rs.length ∧ ss.length ≤ 14 ∧ k ≤ 8 ∧ c ≤ 8 ∧ ∀ H', Same H H' → Q .non H'
theorem ok_check_arguments (TX : Tx K mg) : FnOk P w K mg base CX0 7 TX.a_check_arguments TX.fd_check_arguments ["sizes", "reads", "k", "c"] (sp_check_arguments K) := by
  refine TX.f_check_arguments.ok sc_check_arguments (fun vs H Q E h => ?_) (fun cdv A outer s H vs Q E hr h => ?_)
  · obtain ⟨a, b, ss, rs, k, c, rfl, _⟩ := h; rfl
  · obtain ⟨a, b, ss, rs, k, c, rfl, hA, hB, hs, hr', he, h1, hk, hc, q⟩ := h
    refine ⟨_, (pss_cons (ps_expr (pe_call (ok_check_loads TX) (hr.mono (by decide)) (by rfl) TX.g_check_loads TX.f_check_loads.kp TX.bd_check_loads .nil pass0 (pa_cons (pv 0) (pa_cons (pv 1) (pa_cons (pe_glob (v := .int (14)) (by rfl) TX.c_MOST_BOUNDED_FLUSHES ⟨_, rfl⟩) pa_nil)))))
      (pss_one (ps_expr (pe_call (ok_check_budgets TX) (hr.mono (by decide)) (by rfl) TX.g_check_budgets TX.f_check_budgets.kp TX.bd_check_budgets .nil pass0 (pa_cons (pv 2) (pa_cons (pv 3) (pa_cons (pe_glob (v := .int (8)) (by rfl) TX.c_MOST_BOUNDED_BUDGET ⟨_, rfl⟩) pa_nil))))))), ?_⟩
    refine ⟨.ref a, rfl, .ref b, rfl, a, b, ss, rs, 14, rfl, hA, hB, hs, hr', he, by omega, by omega, fun H1 s1 => ?_⟩
    exact ⟨_, rfl, _, rfl, _, _, _, rfl, by omega, by omega, by omega, by omega, fun H2 s2 => q _ (s1.trans s2)⟩
def spq_sib (N : Nat) (K : PySem.W.Frag) : Sp := fun vs H Q _ => ∃ (v z : V) (ss rs : List Int) (k c b a i m : Nat), vs = [v, z, .int (b : Int), .int (a : Int), .int (i : Int), .int ((i + m : Nat) : Int)] ∧ Dp K H v (dGrid (sm ss) (sm rs) ss.length k c) ∧ Sms K H z ss rs ∧ ss.length = rs.length ∧ ss.length ≤ 100 ∧ i + m ≤ ss.length ∧ b ≤ k ∧ a ≤ c ∧ m ≤ mxb b a ∧ b + a < N ∧
  ∀ H' p, Same H H' → SqT K H' p (vi (ltb (sm ss) (sm rs) b a i m).sch) → Q (.ref p) H'
theorem ok_sib (TX : Tx K mg) : ∀ N : Nat, FnOk P w K mg base CX0 (3 + N) TX.a_schedule_in_bounded TX.fd_schedule_in_bounded ["tables", "sums", "b", "a", "start", "stop"] (spq_sib N K)
  | 0 => ⟨fun vs H Q E h => by obtain ⟨_, _, _, _, _, _, _, _, _, _, _, _, _, _, _, _, _, _, _, h, _⟩ := h; omega, fun A outer s H args us vs Q E _ _ _ _ h => by obtain ⟨_, _, _, _, _, _, _, _, _, _, _, _, _, _, _, _, _, _, _, h, _⟩ := h; omega⟩
  | N + 1 => by
    have ih := ok_sib TX N
    refine TX.f_schedule_in_bounded.ok (k := 3 + N) sc_schedule_in_bounded (fun vs H Q E h => ?_) (fun cdv A outer s H vs Q E hr h => ?_)
    · obtain ⟨v, z, ss, rs, k, c, b, a, i, m, rfl, _⟩ := h; rfl
    · obtain ⟨v, z, ss, rs, k, c, b, a, i, m, rfl, hD, hZ, he, h1, h2, hb, ha, hm, hN, q⟩ := h
      refine ⟨_, (pss_cons (ps_if (pt_cmpR op_eq (pv 4) (pv 5) (nomark _))
        (pss_one (ps_ret (pe_tup pa_nil)))
        pss_nil)
      (pss_cons (ps_set (i := 6) sc_schedule_in_bounded.nd rfl (.inl rfl) (pe_call (ok_least_rootO TX) (hr.mono (by omega)) (by rfl) TX.g_least_root TX.f_least_root.kp TX.bd_least_root .nil pass0 (pa_cons (pe_ix (k_ixQ (K := K) rfl) (pe_ix (k_ixQ (K := K) rfl) (pv 0) (pv 2) (fun _ _ => rfl)) (pe_op op_sub (pv 3) pe_int) (fun _ _ => rfl)) (pa_cons (pe_ix (k_ixQ (K := K) rfl) (pe_ix (k_ixQ (K := K) rfl) (pv 0) (pe_op op_sub (pv 2) pe_int) (fun _ _ => rfl)) (pv 3) (fun _ _ => rfl)) (pa_cons (pv 1) (pa_cons (pv 4) (pa_cons (pv 5) pa_nil)))))))
      (pss_cons (ps_set (i := 7) sc_schedule_in_bounded.nd rfl (.inl rfl) (pe_call ih (hr.mono (by omega)) (by rfl) TX.g_schedule_in_bounded TX.f_schedule_in_bounded.kp TX.bd_schedule_in_bounded .nil pass0 (pa_cons (pv 0) (pa_cons (pv 1) (pa_cons (pv 2) (pa_cons (pe_op op_sub (pv 3) pe_int) (pa_cons (pv 4) (pa_cons (pv 6) pa_nil))))))))
      (pss_one (ps_ret (pe_call (ok_joined TX) (hr.mono (by omega)) (by rfl) TX.g_joined TX.f_joined.kp TX.bd_joined .nil pass0 (pa_cons (pv 7) (pa_cons (pe_call ih (hr.mono (by omega)) (by rfl) TX.g_schedule_in_bounded TX.f_schedule_in_bounded.kp TX.bd_schedule_in_bounded .nil pass0 (pa_cons (pv 0) (pa_cons (pv 1) (pa_cons (pe_op op_sub (pv 2) pe_int) (pa_cons (pv 3) (pa_cons (pe_op op_add (pv 6) pe_int) (pa_cons (pv 5) pa_nil))))))) pa_nil)))))))), ?_⟩
      refine ⟨_, rfl, _, rfl, rfl, _, rfl, ?_⟩
      cases m with
      | zero =>
        refine iteB1 (by simp) ⟨sz60 (by simp), fun p np => q _ p (same_upd np) ?_⟩
        rw [ltb_zero]
        exact .inl (.inl upd_same)
      | succ m =>
        have hne : decide (V.int ((i : Nat) : Int) = V.int ((i + (m + 1) : Nat) : Int)) = false := decide_eq_false fun e => by
          have := V.int.inj e
          omega
        refine iteB0 hne ?_
        cases b with
        | zero => rw [mxb_b0] at hm; omega
        | succ b =>
        cases a with
        | zero => rw [mxb_a0] at hm; omega
        | succ a =>
        have hrt := rtb_le (S := sm ss) (R := sm rs) (i := i) hm
        obtain ⟨pr, hpr⟩ := bst_ex (S := sm ss) (R := sm rs) (i := i) hm
        obtain ⟨px, py, _, _, _, hpe⟩ := bst_some hpr
        have eb : ((b + 1 : Nat) : Int) - 1 = ((b : Nat) : Int) := by omega
        have ea : ((a + 1 : Nat) : Int) - 1 = ((a : Nat) : Int) := by omega
        obtain ⟨p1, xs1, r1, ys1, t1, rfl, g1, g2, g3, g4, g5⟩ := grid_at (b := b + 1) (a := a) hD hb (by omega)
        obtain ⟨p1', xs2, r2, ys2, t2, e0, k1, k2, k3, k4, k5⟩ := grid_at (b := b) (a := a + 1) hD (by omega) ha
        cases e0
        refine ⟨.ref p1, rfl, _, rfl, p1, _, _, .ref r1, rfl, rfl, .inr g1, atI_nat g2, _, rfl, _, _, rfl, rfl, r1, _, _, .ref t1, rfl, rfl, .inr g3, (by rw [ea]; exact atI_nat g4), ?_⟩
        refine ⟨.ref p1, rfl, _, rfl, _, _, rfl, rfl, p1, _, _, .ref r2, rfl, rfl, .inr k1, (by rw [eb]; exact atI_nat k2), _, rfl, r2, _, _, .ref t2, rfl, rfl, .inr k3, atI_nat k4, ?_⟩
        refine ⟨z, rfl, _, rfl, _, rfl, .ref t1, .ref t2, z, ss, rs, i, m + 1, _, _, pr, rfl, hZ, h2, by omega, by omega, tabO_rds g5 k5 h2, hpr, fun H1 s1 => ?_⟩
        rw [hpe]
        dsimp only
        generalize hrr : rtb (sm ss) (sm rs) b a i m = rt at hrt ⊢
        refine ⟨_, rfl, z, rfl, _, rfl, _, rfl, _, _, rfl, rfl, _, rfl, _, rfl, .ref p1, z, ss, rs, k, c, b + 1, a, i, rt, (by dsimp only; rw [ea]; rfl), Dp.same s1 hD, hZ.same s1, he, h1, by omega, hb, by omega, hrt.2.1, by omega, fun H2 p2 s2 hp2 => ?_⟩
        have s12 := s1.trans s2
        have e1 : ((i + rt : Nat) : Int) + 1 = ((i + rt + 1 : Nat) : Int) := by omega
        have e2 : i + (m + 1) = i + rt + 1 + (m - rt) := by omega
        refine ⟨_, rfl, _, rfl, z, rfl, _, rfl, _, _, rfl, rfl, _, rfl, _, rfl, _, _, rfl, rfl, _, rfl, .ref p1, z, ss, rs, k, c, b, a + 1, i + rt + 1, m - rt, (by dsimp only; rw [eb, e1, ← e2]; rfl), Dp.same s12 hD, hZ.same s12, he, h1, by omega, by omega, ha, hrt.2.2, by omega, fun H3 p3 s3 hp3 => ?_⟩
        have sz1 := ltb_size (sm ss) (sm rs) _ (b + 1) a i rt (Nat.le_refl _) hrt.2.1
        have sz2 := ltb_size (sm ss) (sm rs) _ b (a + 1) (i + rt + 1) (m - rt) (Nat.le_refl _) hrt.2.2
        refine ⟨p2, p3, _, _, rfl, Same.tup s3 hp2, hp3, by rw [sz1, sz2]; omega, fun H4 p4 s4 hp4 => q _ p4 ((s12.trans s3).trans s4) ?_⟩
        rw [ltb_succ, hrr]
        exact hp4
theorem ok_schedule_in_bounded (TX : Tx K mg) : FnOk P w K mg base CX0 64 TX.a_schedule_in_bounded TX.fd_schedule_in_bounded ["tables", "sums", "b", "a", "start", "stop"] (spq_sib 61 K) := ok_sib TX 61
def sp_least_work_within (K : PySem.W.Frag) : Sp := fun vs H Q _ => ∃ (a b : Addr) (ss rs : List Int) (k c : Nat), vs = [.ref a, .ref b, .int (k : Int), .int (c : Int)] ∧ SqT K H a (ss.map V.int) ∧ SqT K H b (rs.map V.int) ∧ Lds ss ∧ Lds rs ∧ ss.length = rs.length ∧ ss.length ≤ 14 ∧ k ≤ 8 ∧ c ≤ 8 ∧
  ∀ H', Same H H' → (mxb k c < ss.length → Q .non H') ∧ ∀ x p r, lwb (sm ss) (sm rs) k c 0 ss.length = some x → SqT K H' p [.int x, .ref r] → SqT K H' r (vi (ltb (sm ss) (sm rs) k c 0 ss.length).sch) → Q (.ref p) H'
theorem ok_least_work_within (TX : Tx K mg) : FnOk P w K mg base CX0 65 TX.a_least_work_within TX.fd_least_work_within ["sizes", "reads", "k", "c"] (sp_least_work_within K) := by
  refine TX.f_least_work_within.ok sc_least_work_within (fun vs H Q E h => ?_) (fun cdv A outer s H vs Q E hr h => ?_)
  · obtain ⟨a, b, ss, rs, k, c, rfl, _⟩ := h; rfl
  · obtain ⟨a, b, ss, rs, k, c, rfl, hA, hB, hs, hr', he, h1, hk, hc, q⟩ := h
    refine ⟨_, (pss_cons (ps_expr (pe_call (ok_check_arguments TX) (hr.mono (by decide)) (by rfl) TX.g_check_arguments TX.f_check_arguments.kp TX.bd_check_arguments .nil pass0 (pa_cons (pv 0) (pa_cons (pv 1) (pa_cons (pv 2) (pa_cons (pv 3) pa_nil))))))
      (pss_cons (ps_set (i := 4) sc_least_work_within.nd rfl (.inl rfl) (pe_call (ok_least_tables TX) (hr.mono (by decide)) (by rfl) TX.g_least_tables TX.f_least_tables.kp TX.bd_least_tables .nil pass0 (pa_cons (pv 0) (pa_cons (pv 1) (pa_cons (pv 2) (pa_cons (pv 3) pa_nil))))))
      (pss_cons (ps_set (i := 5) sc_least_work_within.nd rfl (.inl rfl) (pe_ix (k_ixQ (K := K) rfl) (pe_ix (k_ixQ (K := K) rfl) (pe_ix (k_ixQ (K := K) rfl) (pe_ix (k_ixQ (K := K) rfl) (pv 4) (pv 2) (fun _ _ => rfl)) (pv 3) (fun _ _ => rfl)) pe_int (fun _ _ => rfl)) (pe_un un_neg pe_int) (fun _ _ => rfl)))
      (pss_cons (ps_if (pt_cmpR op_isN (pv 5) pe_non (nomark _))
        (pss_one (ps_ret pe_non))
        pss_nil)
      (pss_one (ps_ret (pe_tup (pa_cons (pv 5) (pa_cons (pe_call (ok_schedule_in_bounded TX) (hr.mono (by decide)) (by rfl) TX.g_schedule_in_bounded TX.f_schedule_in_bounded.kp TX.bd_schedule_in_bounded .nil pass0 (pa_cons (pv 4) (pa_cons (pe_call (ok_load_sums TX) (hr.mono (by decide)) (by rfl) TX.g_load_sums TX.f_load_sums.kp TX.bd_load_sums .nil pass0 (pa_cons (pv 0) (pa_cons (pv 1) pa_nil))) (pa_cons (pv 2) (pa_cons (pv 3) (pa_cons pe_int (pa_cons (pe_callB (id := "len") (k_len (K := K) rfl) (by rfl) TX.b_len (by decide +kernel) (pa_cons (pv 0) pa_nil)) pa_nil))))))) pa_nil))))))))), ?_⟩
    refine ⟨.ref a, rfl, .ref b, rfl, _, rfl, _, rfl, a, b, ss, rs, k, c, rfl, hA, hB, hs, hr', he, h1, hk, hc, fun H1 s1 => ?_⟩
    refine ⟨.ref a, rfl, .ref b, rfl, _, rfl, _, rfl, a, b, ss, rs, k, c, rfl, Same.tup s1 hA, Same.tup s1 hB, he, by omega, by omega, by omega, fun H2 p s2 hD => ?_⟩
    have s12 := s1.trans s2
    obtain ⟨p1, xs1, r1, ys1, t1, e0, g1, g2, g3, g4, g5⟩ := grid_at (b := k) (a := c) hD (Nat.le_refl _) (Nat.le_refl _)
    cases e0
    obtain ⟨t1', xs, e0, hS, hl, hrow⟩ := tabO_row g5
    cases e0
    obtain ⟨r0, hr0, hR0⟩ := hrow 0 (by omega)
    have e1 : (rowO (lwb (sm ss) (sm rs) k c) ss.length 0).map ov = ((List.range ss.length).map fun m => ov (lwb (sm ss) (sm rs) k c 0 m)) ++ [ov (lwb (sm ss) (sm rs) k c 0 ss.length)] := by
      unfold rowO
      rw [Nat.sub_zero, List.range_succ, List.map_append, List.map_append, List.map_map]; rfl
    refine ⟨.ref p, rfl, _, rfl, p, _, _, .ref r1, rfl, rfl, .inr g1, atI_nat g2, _, rfl, r1, _, _, .ref t1, rfl, rfl, .inr g3, atI_nat g4, t1, _, 0, .ref r0, rfl, rfl, .inr hS, atI_nat (j := 0) hr0, _, rfl, r0, _, -1, _, rfl, rfl, .inr hR0, (by rw [e1]; exact atI_last _ _), ?_⟩
    have hlen : (((ss.map V.int).length : Nat) : Int) = ((0 + ss.length : Nat) : Int) := by rw [List.length_map, Nat.zero_add]
    cases el : lwb (sm ss) (sm rs) k c 0 ss.length with
    | none =>
      have hmx := (lwb_none (sm ss) (sm rs) _ k c 0 ss.length (Nat.le_refl _)).mp el
      exact ⟨_, rfl, rfl, _, rfl, iteB1 (by simp [ov]) ((q _ s12).1 hmx)⟩
    | some x =>
      refine ⟨_, rfl, rfl, _, rfl, iteB0 (by simp [ov]) ?_⟩
      refine ⟨_, rfl, .ref p, rfl, .ref a, rfl, .ref b, rfl, a, b, ss, rs, rfl, Same.tup s12 hA, Same.tup s12 hB, by omega, by omega, fun H3 z s3 hZ => ?_⟩
      refine ⟨_, rfl, _, rfl, .ref a, rfl, a, _, rfl, .inr (Same.tup (s12.trans s3) hA), ?_⟩
      refine ⟨.ref p, .ref z, ss, rs, k, c, k, c, 0, ss.length, (by rw [hlen]; rfl), Dp.same s3 hD, hZ, he, by omega, by omega, Nat.le_refl _, Nat.le_refl _, mxb_of el, by omega, fun H4 r s4 hr4 => ⟨sz60 (by simp), fun o no => ?_⟩⟩
      have s5 := same_upd (o := .tup [ov (some x), V.ref r]) no
      exact (q _ (((s12.trans s3).trans s4).trans s5)).2 x o r el (.inl (.inl upd_same)) (Same.tup s5 hr4)
end
/-- within b runs and a writes -/
def Win (b a : Nat) (t : T) : Prop := (∀ x, x ∈ t.rc → x ≤ b) ∧ ∀ x, x ∈ t.wr → x ≤ a
theorem win_nil (b a : Nat) : Win b a .nil := ⟨fun x h => (nomatch h), fun x h => (nomatch h)⟩
theorem win_node {b a : Nat} {l r : T} : Win b a (.node l r) ↔ 1 ≤ b ∧ 1 ≤ a ∧ Win b (a - 1) l ∧ Win (b - 1) a r := by
  unfold Win
  have e1 : (T.node l r).rc = l.rc ++ 1 :: r.rc.map (· + 1) := rfl
  have e2 : (T.node l r).wr = l.wr.map (· + 1) ++ 1 :: r.wr := rfl
  rw [e1, e2]
  constructor
  · rintro ⟨h1, h2⟩
    have b1 := h1 1 (by simp)
    have a1 := h2 1 (by simp)
    refine ⟨b1, a1, ⟨fun x hx => h1 x (by simp [hx]), fun x hx => ?_⟩, fun x hx => ?_, fun x hx => h2 x (by simp [hx])⟩
    · have := h2 (x + 1) (by simp [hx])
      omega
    · have := h1 (x + 1) (by simp [hx])
      omega
  · rintro ⟨b1, a1, ⟨h1, h2⟩, h3, h4⟩
    refine ⟨fun x hx => ?_, fun x hx => ?_⟩
    · rcases List.mem_append.mp hx with hx | hx
      · exact h1 x hx
      · rcases List.mem_cons.mp hx with rfl | hx
        · exact b1
        · obtain ⟨y, hy, rfl⟩ := List.mem_map.mp hx
          have := h3 y hy
          omega
    · rcases List.mem_append.mp hx with hx | hx
      · obtain ⟨y, hy, rfl⟩ := List.mem_map.mp hx
        have := h2 y hy
        omega
      · rcases List.mem_cons.mp hx with rfl | hx
        · exact a1
        · exact h4 x hx
theorem win_mx : ∀ (t : T) (b a : Nat), Win b a t → t.size ≤ mxb b a
  | .nil, b, a, _ => Nat.zero_le _
  | .node l r, b, a, h => by
    obtain ⟨hb, ha, hl, hr⟩ := win_node.mp h
    have h1 := win_mx l _ _ hl
    have h2 := win_mx r _ _ hr
    obtain ⟨b', rfl⟩ : ∃ b', b = b' + 1 := ⟨b - 1, by omega⟩
    obtain ⟨a', rfl⟩ : ∃ a', a = a' + 1 := ⟨a - 1, by omega⟩
    rw [mxb_succ]
    simp only [Nat.add_sub_cancel] at h1 h2
    simp only [T.size]
    omega
theorem minOf_le {p : Int × Int} : ∀ {ps : List (Int × Int)} {q : Int × Int}, q ∈ p :: ps → (PySem.W.minOf p ps).1 ≤ q.1 := by
  intro ps
  unfold PySem.W.minOf
  induction ps generalizing p with
  | nil => intro q h; rw [List.mem_singleton.mp h]; exact Int.le_refl _
  | cons r ps ih =>
    intro q h
    rw [List.foldl_cons]
    have lt_iff : PySem.W.DatumOrd.lt r p = (if r.1 = p.1 then decide (r.2 < p.2) else decide (r.1 < p.1)) := rfl
    have h0 := ih (p := if PySem.W.DatumOrd.lt r p = true then r else p) (q := if PySem.W.DatumOrd.lt r p = true then r else p) (List.mem_cons_self ..)
    have h1 : (if PySem.W.DatumOrd.lt r p = true then r else p).1 ≤ p.1 ∧ (if PySem.W.DatumOrd.lt r p = true then r else p).1 ≤ r.1 := by
      by_cases hh : PySem.W.DatumOrd.lt r p = true
      · rw [if_pos hh]
        rw [lt_iff] at hh
        by_cases e : r.1 = p.1
        · exact ⟨by omega, Int.le_refl _⟩
        · rw [if_neg e] at hh
          have := of_decide_eq_true hh
          exact ⟨by omega, Int.le_refl _⟩
      · rw [if_neg hh]
        rw [lt_iff] at hh
        by_cases e : r.1 = p.1
        · exact ⟨Int.le_refl _, by omega⟩
        · rw [if_neg e] at hh
          have : ¬ r.1 < p.1 := fun z => hh (decide_eq_true z)
          exact ⟨Int.le_refl _, by omega⟩
    rcases List.mem_cons.mp h with rfl | h
    · exact Int.le_trans h0 h1.1
    · rcases List.mem_cons.mp h with rfl | h
      · exact Int.le_trans h0 h1.2
      · exact ih (List.mem_cons_of_mem _ h)
theorem minP_le {l : List (Int × Int)} {p q : Int × Int} (h : minP l = some p) (hq : q ∈ l) : p.1 ≤ q.1 := by
  cases l with
  | nil => cases h
  | cons r l =>
    simp only [minP, Option.some.injEq] at h
    rw [← h]
    exact minOf_le hq
theorem lwb_le {ss rs : List Int} : ∀ (t : T) (b a i : Nat), Win b a t → i + t.size ≤ ss.length → i + t.size ≤ rs.length → ∃ x, lwb (sm ss) (sm rs) b a i t.size = some x ∧ x ≤ wkI ss rs i t
  | .nil, b, a, i, _, _, _ => ⟨0, by show lwb _ _ b a i 0 = _; rw [lwb_zero], by simp [wkI, T.size, T.wr, T.rc, dot]⟩
  | .node l r, b, a, i, h, h1, h2 => by
    obtain ⟨hb, ha, hl, hr⟩ := win_node.mp h
    simp only [T.size] at h1 h2
    obtain ⟨b', rfl⟩ : ∃ b', b = b' + 1 := ⟨b - 1, by omega⟩
    obtain ⟨a', rfl⟩ : ∃ a', a = a' + 1 := ⟨a - 1, by omega⟩
    simp only [Nat.add_sub_cancel] at hl hr
    obtain ⟨x, hx, hx2⟩ := lwb_le (ss := ss) (rs := rs) l _ _ i hl (by omega) (by omega)
    obtain ⟨y, hy, hy2⟩ := lwb_le (ss := ss) (rs := rs) r _ _ (i + l.size + 1) hr (by omega) (by omega)
    have es : (T.node l r).size = l.size + r.size + 1 := by simp only [T.size]; omega
    have hw : wb1 (fun k => lwb (sm ss) (sm rs) (b' + 1) a' i k) (fun k => lwb (sm ss) (sm rs) b' (a' + 1) (i + k + 1) (l.size + r.size - k)) (cst (sm ss) (sm rs) i (l.size + r.size + 1)) i l.size = some (x + y + cst (sm ss) (sm rs) i (l.size + r.size + 1) l.size, ((i + l.size : Nat) : Int)) := by
      unfold wb1
      dsimp only
      rw [hx, show l.size + r.size - l.size = r.size by omega, hy]
    have hmem := mem_wbo.mpr ⟨l.size, show l.size < l.size + r.size + 1 by omega, hw⟩
    obtain ⟨p, hp⟩ : ∃ p, bstw (sm ss) (sm rs) b' a' i (l.size + r.size) = some p := by
      cases e : bstw (sm ss) (sm rs) b' a' i (l.size + r.size) with
      | some p => exact ⟨p, rfl⟩
      | none =>
        have e' := minP_none.mp (show minP _ = none from e)
        rw [e'] at hmem
        cases hmem
    refine ⟨p.1, by rw [es, lwb_succ, hp]; rfl, ?_⟩
    have hle := minP_le (show minP _ = some p from hp) hmem
    rw [wk_node (by omega) (by omega)]
    have hle' : p.1 ≤ x + y + cst (sm ss) (sm rs) i (l.size + r.size + 1) l.size := hle
    omega
theorem ltb_win (S R : Nat → Int) : ∀ (n b a i m : Nat), b + a ≤ n → m ≤ mxb b a → Win b a (ltb S R b a i m)
  | n, b, a, i, 0, _, _ => by rw [ltb_zero]; exact win_nil _ _
  | n, 0, a, i, m + 1, _, h => by rw [mxb_b0] at h; omega
  | n, b + 1, 0, i, m + 1, _, h => by rw [mxb_a0] at h; omega
  | 0, b + 1, a + 1, i, m + 1, h, _ => absurd h (by omega)
  | n + 1, b + 1, a + 1, i, m + 1, h, hm => by
    obtain ⟨h1, h2, h3⟩ := rtb_le (S := S) (R := R) (i := i) hm
    rw [ltb_succ, win_node]
    exact ⟨by omega, by omega, ltb_win S R n _ _ _ _ (by omega) h2, ltb_win S R n _ _ _ _ (by omega) h3⟩
theorem ltb_wk {ss rs : List Int} : ∀ (n b a i m : Nat) (x : Int), b + a ≤ n → i + m ≤ ss.length → i + m ≤ rs.length → lwb (sm ss) (sm rs) b a i m = some x → wkI ss rs i (ltb (sm ss) (sm rs) b a i m) = x
  | n, b, a, i, 0, x, _, _, _, h => by
    rw [lwb_zero] at h
    cases h
    rw [ltb_zero]
    simp [wkI, T.size, T.wr, T.rc, dot]
  | n, 0, a, i, m + 1, x, _, _, _, h => by rw [lwb_b0] at h; cases h
  | n, b + 1, 0, i, m + 1, x, _, _, _, h => by rw [lwb_a0] at h; cases h
  | 0, b + 1, a + 1, i, m + 1, x, hn, _, _, _ => absurd hn (by omega)
  | n + 1, b + 1, a + 1, i, m + 1, x, hn, h1, h2, h => by
    have hm := mxb_of h
    rw [lwb_succ, Option.map_eq_some_iff] at h
    obtain ⟨p, hp, rfl⟩ := h
    obtain ⟨y, z, g1, g2, g3, g4⟩ := bst_some hp
    obtain ⟨q1, q2, q3⟩ := rtb_le (S := sm ss) (R := sm rs) (i := i) hm
    have sz1 := ltb_size (sm ss) (sm rs) _ (b + 1) a i (rtb (sm ss) (sm rs) b a i m) (Nat.le_refl _) q2
    have sz2 := ltb_size (sm ss) (sm rs) _ b (a + 1) (i + rtb (sm ss) (sm rs) b a i m + 1) (m - rtb (sm ss) (sm rs) b a i m) (Nat.le_refl _) q3
    rw [ltb_succ, wk_node (by omega) (by omega), sz1, sz2, ltb_wk n _ _ _ _ _ (by omega) (by omega) (by omega) g2, ltb_wk n _ _ _ _ _ (by omega) (by omega) (by omega) g3, g4]
    rw [show rtb (sm ss) (sm rs) b a i m + (m - rtb (sm ss) (sm rs) b a i m) + 1 = m + 1 by omega]
section
variable {P : Program} {w : World} {K : PySem.W.Frag} {mg : Str → Option Value} {base : Heap}
/-- max([0] + xs) -/
theorem max_of {ns : List Nat} {m : Int} (hm : m ∈ ci (0 :: ns)) (hall : ∀ y, y ∈ ci (0 :: ns) → y ≤ m) : ∃ k : Nat, m = (k : Int) ∧ ∀ c : Nat, (k ≤ c ↔ ∀ x, x ∈ ns → x ≤ c) := by
  obtain ⟨k, hk, rfl⟩ : ∃ k : Nat, k ∈ 0 :: ns ∧ (k : Int) = m := by
    unfold ci at hm
    obtain ⟨k, hk, e⟩ := List.mem_map.mp hm
    exact ⟨k, hk, e⟩
  refine ⟨k, rfl, fun c => ⟨fun hc x hx => ?_, fun hc => ?_⟩⟩
  · have := hall ((x : Nat) : Int) (by unfold ci; exact List.mem_map.mpr ⟨x, List.mem_cons_of_mem _ hx, rfl⟩)
    omega
  · rcases List.mem_cons.mp hk with rfl | hk
    · omega
    · exact hc k hk
theorem cat0 (ns : List Nat) : [V.int 0] ++ vi ns = (ci (0 :: ns)).map V.int := by rw [← vi_ci]; rfl
theorem ci_pos (ns : List Nat) : 0 < (ci (0 :: ns)).length := by simp [ci]
def sp_L_within (K : PySem.W.Frag) : Sp := fun vs H Q _ => ∃ (a : Addr) (t : T) (b c : Nat), vs = [.ref a, .int (b : Int), .int (c : Int)] ∧ SqT K H a (vi t.sch) ∧ t.size ≤ 60 ∧ Win b c t ∧ ∀ H', Same H H' → Q (.bl true) H'
theorem ok_L_within (TX : Tx K mg) : FnOk P w K mg base CX0 2 TX.a_L_within TX.fd_L_within ["_law_plan", "_law_k", "_law_c"] (sp_L_within K) := by
  refine TX.f_L_within.ok sc_L_within (fun vs H Q E h => ?_) (fun cdv A outer s H vs Q E hr h => ?_)
  · obtain ⟨a, t, b, c, rfl, _⟩ := h; rfl
  · obtain ⟨a, t, b, c, rfl, hA, hz, hw, q⟩ := h
    refine ⟨_, (pss_cons (ps_asg (pe_call (ok_L_counted TX) (hr.mono (by decide)) (by rfl) TX.g_L_counted TX.f_L_counted.kp TX.bd_L_counted .nil pass0 (pa_cons (pv 0) pa_nil)) (pg_tup rfl (pgs_cons (pg_name (i := 3) sc_L_within.nd rfl (.inl rfl)) (pgs_cons (pg_name (i := 4) sc_L_within.nd rfl (.inl rfl)) pgs_nil))))
      (pss_one (ps_ret (pe_and (pe_cmpR op_le (pe_callB (id := "max") (cr_max rfl) (by rfl) TX.b_max (by decide +kernel) (pa_cons (pe_op op_cat (pe_lst (pa_cons pe_int pa_nil)) (pv 4)) pa_nil)) (pv 1) (nomark _)) (pe_one (pe_cmpR op_le (pe_callB (id := "max") (cr_max rfl) (by rfl) TX.b_max (by decide +kernel) (pa_cons (pe_op op_cat (pe_lst (pa_cons pe_int pa_nil)) (pv 3)) pa_nil)) (pv 2) (nomark _))))))), ?_⟩
    refine ⟨.ref a, rfl, a, t, rfl, hA, hz, fun H1 p tm ct s1 _ _ h1 h2 h3 => ?_⟩
    refine ⟨p, _, rfl, h1, rfl, _, _, rfl, _, _, rfl, rfl, ?_⟩
    refine ⟨sz60 (by simp), fun z nz => ?_⟩
    have s2 := same_upd (o := .lst [V.int 0]) nz
    refine ⟨.ref ct, rfl, z, ct, _, _, rfl, rfl, upd_same, s2 _ _ h3, sz60 (by simp [vi_len, T.rc_len]; omega), fun l nl => ?_⟩
    have s3 := same_upd (o := .lst ([V.int 0] ++ vi t.rc)) nl
    refine ⟨l, ci (0 :: t.rc), rfl, .inl (.inl (by rw [← cat0]; exact upd_same)), ci_pos _, fun mi hm hall => ?_⟩
    obtain ⟨m, rfl, hm'⟩ := max_of hm hall
    have hmb := (hm' b).mpr hw.1
    refine ⟨_, rfl, _, _, rfl, rfl, _, rfl, iteB1 (by simp; omega) ?_⟩
    refine ⟨sz60 (by simp), fun z2 nz2 => ?_⟩
    have s4 := same_upd (o := .lst [V.int 0]) nz2
    have s24 := (s2.trans s3).trans s4
    refine ⟨.ref tm, rfl, z2, tm, _, _, rfl, rfl, upd_same, s24 _ _ h2, sz60 (by simp [vi_len, T.wr_len]; omega), fun l2 nl2 => ?_⟩
    have s5 := same_upd (o := .lst ([V.int 0] ++ vi t.wr)) nl2
    refine ⟨l2, ci (0 :: t.wr), rfl, .inl (.inl (by rw [← cat0]; exact upd_same)), ci_pos _, fun mi2 hm2 hall2 => ?_⟩
    obtain ⟨m2, rfl, hm3⟩ := max_of hm2 hall2
    have hmc := (hm3 c).mpr hw.2
    refine ⟨_, rfl, _, _, rfl, rfl, ?_⟩
    have q' := q _ ((s1.trans s24).trans s5)
    rw [← decide_eq_true (show ((m2 : Nat) : Int) ≤ ((c : Nat) : Int) by omega)] at q'
    exact q'
end
def dPs (ps : List Pt) : List PyData := ps.map dP
theorem tf_dPs (ps : List Pt) : ∀ d, d ∈ dPs ps → Tf d := fun d h => by
  obtain ⟨p, _, rfl⟩ := List.mem_map.mp h
  exact tf_dP p
/-- no number of a point is large -/
def Sml (p : Pt) : Prop := (0 ≤ p.1 ∧ p.1 ≤ 4000000000000) ∧ 0 ≤ p.2 ∧ p.2 ≤ 4000000000000
theorem dP_inv {K : PySem.W.Frag} {H : Hp} {v : V} {p : Pt} (h : Dp K H v (dP p)) : ∃ a, v = .ref a ∧ SqT K H a [.int p.1, .int p.2] := Dp.intsInv (ns := [p.1, p.2]) h
theorem cap_len : ∀ {l L : List Pt}, (l.Pairwise fun p q => p.1 < q.1) → (∀ p, p ∈ l → p ∈ L) → l.length ≤ L.length
  | [], _, _, _ => by simp
  | p :: l, L, h, hs => by
    have d := List.pairwise_cons.mp h
    have hp := hs p (List.mem_cons_self ..)
    have := cap_len (l := l) (L := L.erase p) d.2 fun q hq => (List.mem_erase_of_ne fun e => by have := d.1 q hq; rw [e] at this; omega).mpr (hs q (List.mem_cons_of_mem _ hq))
    rw [List.length_erase_of_mem hp] at this
    have := List.length_pos_of_mem hp
    rw [List.length_cons]; omega
theorem cap_of {S : Pt → Prop} {L : List Pt} (h : ∀ p, S p → p ∈ L) {B : Nat} (hB : L.length ≤ B) : Cap S B := fun l hl hS => Nat.le_trans (cap_len hl fun p hp => h p (hS p hp)) hB
theorem sml_pnt {ss rs : List Int} {t : T} (hs : Lds ss) (hr : Lds rs) (h1 : ss.length ≤ 60) (h2 : rs.length ≤ 60) (ht : t.size ≤ 60) : Sml (pnt ss rs t) := by
  have := pnt_bd (t := t) hs hr h1 h2 ht
  unfold Sml; omega
theorem rpw_pts {ps : List Pt} (hs : ∀ p, p ∈ ps → Sml p) (hn : ps.length ≤ 30000) : RpW 2 100000 (.tuple (dPs ps)) := by
  refine RpW.tup (k := 1) (n := 2) (fun d hd => ?_) (by simp only [dPs, List.length_map]; omega)
  obtain ⟨p, hp, rfl⟩ := List.mem_map.mp hd
  have := hs p hp
  unfold Sml at this
  exact RpW.ints (ns := [p.1, p.2]) (fun i hi => by
    simp only [List.mem_cons, List.not_mem_nil, or_false] at hi
    have e : i.natAbs ≤ 10 ^ 18 := by rcases hi with rfl | rfl <;> omega
    exact Nat.lt_of_le_of_lt e (by decide +kernel)) (by simp)
theorem sh_pts (ps : List Pt) : Sh 2 (.tuple (dPs ps)) := Sh.tup (k := 1) fun d hd => by obtain ⟨p, _, rfl⟩ := List.mem_map.mp hd; exact sh_dP p
theorem lds_ofB {ns : List Int} {wd : Int} (h : ∀ x, x ∈ ns → 0 ≤ x ∧ (x ≤ wd ∨ x ≤ 3)) (h1 : wd ≤ 1000000000) : Lds ns := fun x hx => by
  have := h x hx
  omega
/-! all trees of a size, and how many -/
def trF : Nat → Nat → List T
  | _, 0 => [.nil]
  | 0, _ + 1 => []
  | f + 1, n + 1 => (List.range (n + 1)).flatMap fun k => (trF f k).flatMap fun l => (trF f (n - k)).map fun r => .node l r
def cnF : Nat → Nat → Nat
  | _, 0 => 1
  | 0, _ + 1 => 0
  | f + 1, n + 1 => ((List.range (n + 1)).map fun k => cnF f k * cnF f (n - k)).sum
theorem trF_mem : ∀ (f n : Nat) (t : T), n ≤ f → t.size = n → t ∈ trF f n
  | f, 0, t, _, ht => by
    cases t with
    | nil => cases f <;> exact List.mem_singleton.mpr rfl
    | node l r => simp only [T.size] at ht; omega
  | 0, n + 1, t, h, _ => by omega
  | f + 1, n + 1, t, h, ht => by
    cases t with
    | nil => simp only [T.size] at ht; omega
    | node l r =>
      simp only [T.size] at ht
      refine List.mem_flatMap.mpr ⟨l.size, List.mem_range.mpr (by omega), List.mem_flatMap.mpr ⟨l, trF_mem f l.size l (by omega) rfl, List.mem_map.mpr ⟨r, trF_mem f (n - l.size) r (by omega) (by omega), rfl⟩⟩⟩
theorem flatMap_len {α β : Type} (f : α → List β) (c : Nat) (L : List α) (h : ∀ a, a ∈ L → (f a).length = c) : (L.flatMap f).length = L.length * c := by
  induction L with
  | nil => simp
  | cons a L ih =>
    rw [List.flatMap_cons, List.length_append, h a (List.mem_cons_self ..), ih fun b hb => h b (List.mem_cons_of_mem _ hb), List.length_cons, Nat.succ_mul]
    omega
theorem trF_len : ∀ (f n : Nat), (trF f n).length = cnF f n
  | 0, 0 => rfl
  | f + 1, 0 => rfl
  | 0, n + 1 => rfl
  | f + 1, n + 1 => by
    show ((List.range (n + 1)).flatMap _).length = ((List.range (n + 1)).map _).sum
    rw [List.length_flatMap]
    congr 1
    refine List.map_congr_left fun k _ => ?_
    rw [flatMap_len _ (cnF f (n - k)) _ fun l _ => by rw [List.length_map, trF_len f (n - k)], trF_len f k]
theorem cap_cat {ss rs : List Int} {f : Nat} (h : ss.length ≤ f) {B : Nat} (hB : cnF f ss.length ≤ B) : Cap (SP ss rs) B :=
  cap_of (L := (trF f ss.length).map (pnt ss rs)) (fun p ⟨t, ht, e⟩ => by rw [e]; exact List.mem_map.mpr ⟨t, trF_mem f _ t h ht, rfl⟩) (by rw [List.length_map, trF_len]; exact hB)
theorem cn_11 : ∀ n, n ≤ 11 → cnF 11 n ≤ 58786 := fun n hn => by
  have : n = 0 ∨ n = 1 ∨ n = 2 ∨ n = 3 ∨ n = 4 ∨ n = 5 ∨ n = 6 ∨ n = 7 ∨ n = 8 ∨ n = 9 ∨ n = 10 ∨ n = 11 := by omega
  rcases this with rfl | rfl | rfl | rfl | rfl | rfl | rfl | rfl | rfl | rfl | rfl | rfl <;> decide +kernel
theorem dot_rev : ∀ (xs : List Int) (ns : List Nat), xs.length = ns.length → dot xs.reverse ns.reverse = dot xs ns
  | [], [], _ => rfl
  | x :: xs, n :: ns, h => by
    have ih := dot_rev xs ns (by simpa using h)
    have e : (List.reverse xs).length = (List.reverse ns).length := by simpa using h
    unfold dot at ih ⊢
    rw [List.reverse_cons, List.reverse_cons, List.zipWith_append e, List.sum_append, ih]
    simp
    omega
def wi (t : T) (k c : Nat) : Bool := t.rc.all (fun n => decide (n ≤ k)) && t.wr.all (fun n => decide (n ≤ c))
theorem wi_mir (t : T) (k c : Nat) : wi t.mir c k = wi t k c := by
  unfold wi
  rw [mir_rc, mir_wr, List.all_reverse, List.all_reverse, Bool.and_comm]
theorem max_all {ns : List Nat} {k : Nat} {m : Int} (h1 : m ∈ (0 : Int) :: ci ns) (h2 : ∀ y, y ∈ (0 : Int) :: ci ns → y ≤ m) : decide (m ≤ (k : Int)) = ns.all fun n => decide (n ≤ k) := by
  by_cases h : ∀ n, n ∈ ns → n ≤ k
  · have e : (ns.all fun n => decide (n ≤ k)) = true := List.all_eq_true.mpr fun n hn => decide_eq_true (h n hn)
    rw [e]
    refine decide_eq_true ?_
    rcases List.mem_cons.mp h1 with rfl | h1
    · omega
    · unfold ci at h1
      obtain ⟨n, hn, rfl⟩ := List.mem_map.mp h1
      have := h n hn
      omega
  · have e : (ns.all fun n => decide (n ≤ k)) = false := by
      rw [Bool.eq_false_iff]
      intro z
      exact h fun n hn => of_decide_eq_true (List.all_eq_true.mp z n hn)
    rw [e]
    refine decide_eq_false fun z => h fun n hn => ?_
    have := h2 (n : Int) (List.mem_cons_of_mem _ (List.mem_map.mpr ⟨n, hn, rfl⟩))
    omega
/-! the corners of the mirrored loads -/
def swapP (p : Pt) : Pt := (p.2, p.1)
theorem vlu_swap (x y : Int) (p : Pt) : vlu x y (swapP p) = vlu y x p := by simp only [vlu, swapP]; omega
theorem pnt_mir {ss rs : List Int} {t : T} (h1 : ss.length = t.size) (h2 : rs.length = t.size) : pnt rs.reverse ss.reverse t.mir = swapP (pnt ss rs t) := by
  unfold pnt swapP
  dsimp only
  rw [mir_wr, mir_rc, dot_rev rs t.rc (by rw [T.rc_len, h2]), dot_rev ss t.wr (by rw [T.wr_len, h1])]
theorem sp_mir {ss rs : List Int} (he : ss.length = rs.length) (p : Pt) : SP rs.reverse ss.reverse p ↔ SP ss rs (swapP p) := by
  constructor
  · rintro ⟨t, ht, e⟩
    rw [List.length_reverse] at ht
    refine ⟨t.mir, by rw [mir_size]; omega, ?_⟩
    rw [e]
    have := pnt_mir (ss := rs.reverse) (rs := ss.reverse) (t := t) (by simp [ht]) (by simp [ht, he])
    rw [List.reverse_reverse, List.reverse_reverse] at this
    exact this.symm
  · rintro ⟨t, ht, e⟩
    refine ⟨t.mir, by rw [mir_size, List.length_reverse]; omega, ?_⟩
    rw [pnt_mir (by omega) (by omega), ← e]
    rfl
theorem Hul.mirror {S S' : Pt → Prop} {L : List Pt} (h : Hul S L) (hn : ∀ p, S p → 0 ≤ p.1 ∧ 0 ≤ p.2) (hs : ∀ p, S' p ↔ S (swapP p)) : Hul S' (L.map swapP).reverse where
  sub := fun p hp => by
    obtain ⟨q, hq, rfl⟩ := List.mem_map.mp (List.mem_reverse.mp hp)
    exact (hs _).mpr (h.sub q hq)
  inc := by
    rw [List.pairwise_reverse, List.pairwise_map]
    refine List.Pairwise.imp_of_mem (R := fun p q : Pt => p.1 < q.1) (fun {p q} hp hq hlt => ?_) h.inc
    exact (h.cnr hn hq).not_dom (h.sub p hp) (fun e => by subst e; omega) (by omega)
  dom := fun x y hx hy p hp => by
    obtain ⟨k, hk, hl⟩ := h.dom y x hy hx (swapP p) ((hs p).mp hp)
    refine ⟨swapP k, List.mem_reverse.mpr (List.mem_map.mpr ⟨k, hk, rfl⟩), ?_⟩
    rw [vlu_swap] at hl ⊢
    exact hl
  own := fun p hp => by
    obtain ⟨q, hq, rfl⟩ := List.mem_map.mp (List.mem_reverse.mp hp)
    obtain ⟨x, y, hx, hy, hlt⟩ := h.own q hq
    refine ⟨y, x, hy, hx, fun z hz ne => ?_⟩
    obtain ⟨q2, hq2, rfl⟩ := List.mem_map.mp (List.mem_reverse.mp hz)
    rw [vlu_swap, vlu_swap]
    exact hlt q2 hq2 fun e => ne (by rw [e])
theorem lds_revM {ns : List Int} (h : Lds ns) : Lds ns.reverse := fun x hx => h x (List.mem_reverse.mp hx)
theorem ints_revM (ns : List Int) : (ns.map V.int).reverse = ns.reverse.map V.int := by simp
theorem lw_wkF {ss rs : List Int} (he : ss.length = rs.length) : wkF ss rs (lt (sm ss) (sm rs) 0 ss.length) = lw (sm ss) (sm rs) 0 ss.length := by
  have hw := wk_lt (ss := ss) (rs := rs) ss.length 0 (by omega) (by omega)
  rw [wkF_I (by rw [lt_size]) (by rw [lt_size, he])] at hw
  exact hw
theorem lw_min {ss rs : List Int} (he : ss.length = rs.length) {t : T} (ht : t.size = ss.length) : lw (sm ss) (sm rs) 0 ss.length ≤ wkF ss rs t := by
  have := wk_via (ss := ss) (rs := rs) t 0 (by omega) (by omega)
  rw [ht, wkF_I (by omega) (by omega)] at this
  exact this
theorem wkF_mir {ss rs : List Int} {t : T} (h1 : ss.length = t.size) (h2 : rs.length = t.size) : wkF rs.reverse ss.reverse t.mir = wkF ss rs t := by
  unfold wkF
  rw [mir_wr, mir_rc, dot_rev _ _ (by rw [T.rc_len]; omega), dot_rev _ _ (by rw [T.wr_len]; omega)]
  omega
theorem lw_mir {ss rs : List Int} (he : ss.length = rs.length) : lw (sm rs.reverse) (sm ss.reverse) 0 rs.reverse.length = lw (sm ss) (sm rs) 0 ss.length := by
  have key : ∀ {ss rs : List Int}, ss.length = rs.length → lw (sm rs.reverse) (sm ss.reverse) 0 rs.reverse.length ≤ lw (sm ss) (sm rs) 0 ss.length := fun {ss rs} he => by
    have h := lw_min (ss := rs.reverse) (rs := ss.reverse) (by simp [he]) (t := (lt (sm ss) (sm rs) 0 ss.length).mir) (by rw [mir_size, lt_size, List.length_reverse]; omega)
    rw [wkF_mir (by rw [lt_size]) (by rw [lt_size, he]), lw_wkF he] at h
    exact h
  have a := key he
  have b := key (ss := rs.reverse) (rs := ss.reverse) (by simp [he])
  rw [List.reverse_reverse, List.reverse_reverse] at b
  omega
section
variable {P : Program} {w : World} {K : PySem.W.Frag} {mg : Str → Option Value} {base : Heap}
def sp_L_mirrored_right (K : PySem.W.Frag) : Sp := fun vs H Q _ => ∃ (b c : Addr) (ss rs : List Int), vs = [.ref b, .ref c] ∧ SqT K H b (ss.map V.int) ∧ SqT K H c (rs.map V.int) ∧ ss.length = rs.length ∧ ss.length ≤ 60 ∧ Lds ss ∧ Lds rs ∧ ∀ H', Same H H' → Q (.bl true) H'
theorem ok_L_mirrored_right (TX : Tx K mg) : FnOk P w K mg base CX0 67 TX.a_L_mirrored_right TX.fd_L_mirrored_right ["_law_bulk", "_law_looks"] (sp_L_mirrored_right K) := by
  refine TX.f_L_mirrored_right.ok sc_L_mirrored_right (fun vs H Q E h => ?_) (fun cdv A outer s H vs Q E hr h => ?_)
  · obtain ⟨b, c, ss, rs, rfl, _⟩ := h; rfl
  · obtain ⟨b, c, ss, rs, rfl, hB, hC, he, hz, dS, dR, q⟩ := h
    refine ⟨_, (pss_cons (ps_par (i := 2) (j := 3) (by rfl) sc_L_mirrored_right.nd rfl rfl (by decide) rfl rfl (pa_cons (pe_revT (K := K) rfl (pv 1)) (pa_cons (pe_revT (K := K) rfl (pv 0)) pa_nil)) (by rfl))
      (pss_cons (ps_asg (pe_call (ok_least_work TX) (hr.mono (by decide)) (by rfl) TX.g_least_work TX.f_least_work.kp TX.bd_least_work .nil pass0 (pa_cons (pv 0) (pa_cons (pv 1) pa_nil))) (pg_tup rfl (pgs_cons (pg_name (i := 4) sc_L_mirrored_right.nd rfl (.inl rfl)) (pgs_cons (pg_name (i := 5) sc_L_mirrored_right.nd rfl (.inl rfl)) pgs_nil))))
      (pss_cons (ps_asg (pe_call (ok_least_work TX) (hr.mono (by decide)) (by rfl) TX.g_least_work TX.f_least_work.kp TX.bd_least_work .nil pass0 (pa_cons (pv 2) (pa_cons (pv 3) pa_nil))) (pg_tup rfl (pgs_cons (pg_name (i := 6) sc_L_mirrored_right.nd rfl (.inl rfl)) (pgs_cons (pg_name (i := 7) sc_L_mirrored_right.nd rfl (.inl rfl)) pgs_nil))))
      (pss_cons (ps_if (PW.pt (pw_or (pt_cmpR op_ne (pv 6) (pv 4) (nomark _)) (pw_or1 (pt_cmpR op_ne (pe_call (ok_work TX) (hr.mono (by decide)) (by rfl) TX.g_work TX.f_work.kp TX.bd_work .nil pass0 (pa_cons (pe_call (ok_mirror TX) (hr.mono (by decide)) (by rfl) TX.g_mirror TX.f_mirror.kp TX.bd_mirror .nil pass0 (pa_cons (pv 5) pa_nil)) (pa_cons (pv 2) (pa_cons (pv 3) pa_nil)))) (pv 4) (nomark _)))))
        (pss_one (ps_ret pe_bl))
        pss_nil)
      (pss_one (ps_ret (pe_cmpR op_eq (pe_call (ok_work TX) (hr.mono (by decide)) (by rfl) TX.g_work TX.f_work.kp TX.bd_work .nil pass0 (pa_cons (pe_call (ok_mirror TX) (hr.mono (by decide)) (by rfl) TX.g_mirror TX.f_mirror.kp TX.bd_mirror .nil pass0 (pa_cons (pv 7) pa_nil)) (pa_cons (pv 0) (pa_cons (pv 1) pa_nil)))) (pv 4) (nomark _)))))))), ?_⟩
    refine ⟨.ref c, rfl, c, _, rfl, hC, fun sw nsw => ?_⟩
    have s2 := same_upd (o := .tup (rs.map V.int).reverse) nsw
    refine ⟨.ref b, rfl, b, _, rfl, Same.tup s2 hB, fun tu ntu => ?_⟩
    have s3 := same_upd (o := .tup (ss.map V.int).reverse) ntu
    refine ⟨_, _, rfl, ?_⟩
    have s03 := s2.trans s3
    have hB3 := Same.tup s03 hB
    have hC3 := Same.tup s03 hC
    have hsw : SqT K (upd (upd H sw (.tup (rs.map V.int).reverse)) tu (.tup (ss.map V.int).reverse)) sw (rs.reverse.map V.int) := by
      rw [← ints_revM]; exact .inl (.inl (s3 _ _ upd_same))
    have htu : SqT K (upd (upd H sw (.tup (rs.map V.int).reverse)) tu (.tup (ss.map V.int).reverse)) tu (ss.reverse.map V.int) := by
      rw [← ints_revM]; exact .inl (.inl upd_same)
    generalize upd (upd H sw (.tup (rs.map V.int).reverse)) tu (.tup (ss.map V.int).reverse) = H3 at *
    have her : rs.reverse.length = ss.reverse.length := by simp [he]
    refine ⟨.ref b, rfl, .ref c, rfl, b, c, ss, rs, rfl, hB3, hC3, dS, dR, he, hz, fun H4 p r s4 e1 e2 => ?_⟩
    refine ⟨p, _, rfl, e1, rfl, _, _, rfl, _, [], rfl, rfl, ?_⟩
    refine ⟨.ref sw, rfl, .ref tu, rfl, sw, tu, rs.reverse, ss.reverse, rfl, Same.tup s4 hsw, Same.tup s4 htu, lds_revM dR, lds_revM dS, her, by simp; omega, fun H5 p2 r2 s5 e3 e4 => ?_⟩
    refine ⟨p2, _, rfl, e3, rfl, _, _, rfl, _, [], rfl, rfl, ?_⟩
    have s45 := s4.trans s5
    obtain ⟨t, ht⟩ : ∃ t, t = lt (sm ss) (sm rs) 0 ss.length := ⟨_, rfl⟩
    obtain ⟨u, hu⟩ : ∃ u, u = lt (sm rs.reverse) (sm ss.reverse) 0 rs.reverse.length := ⟨_, rfl⟩
    have tz : t.size = ss.length := by rw [ht, lt_size]
    have uz : u.size = ss.length := by rw [hu, lt_size, List.length_reverse, he]
    have w1 : wkF ss rs t = lw (sm ss) (sm rs) 0 ss.length := by rw [ht]; exact lw_wkF he
    have w2 : wkF rs.reverse ss.reverse u = lw (sm ss) (sm rs) 0 ss.length := by rw [hu, ← lw_mir he]; exact lw_wkF her
    rw [← ht] at e2
    rw [← hu] at e4
    refine ⟨_, rfl, _, rfl, rfl, _, rfl, iteB0 (by rw [lw_mir he]; simp) ?_⟩
    refine ⟨.ref r, rfl, r, t, rfl, Same.tup s5 e2, by omega, fun H6 o s6 ho => ⟨.ref sw, rfl, .ref tu, rfl, o, sw, tu, t.mir, rs.reverse, ss.reverse, rfl, ho, Same.tup (s45.trans s6) hsw, Same.tup (s45.trans s6) htu, by rw [mir_size, List.length_reverse]; omega, by rw [mir_size, List.length_reverse]; omega, by rw [mir_size]; omega, lds_revM dR, lds_revM dS, fun H7 s7 => ?_⟩⟩
    have k1 : dot rs.reverse t.mir.wr + dot ss.reverse t.mir.rc = lw (sm ss) (sm rs) 0 ss.length := by rw [← w1, ← wkF_mir (ss := ss) (rs := rs) (t := t) (by omega) (by omega)]; rfl
    refine ⟨_, rfl, rfl, _, rfl, iteB0 (by rw [k1]; simp) ?_⟩
    have s57 := s6.trans s7
    refine ⟨.ref r2, rfl, r2, u, rfl, Same.tup s57 e4, by omega, fun H8 o2 s8 ho2 => ⟨.ref b, rfl, .ref c, rfl, o2, b, c, u.mir, ss, rs, rfl, ho2, Same.tup ((s45.trans s57).trans s8) hB3, Same.tup ((s45.trans s57).trans s8) hC3, by rw [mir_size]; omega, by rw [mir_size]; omega, by rw [mir_size]; omega, dS, dR, fun H9 s9 => ?_⟩⟩
    have k2 : dot ss u.mir.wr + dot rs u.mir.rc = lw (sm ss) (sm rs) 0 ss.length := by
      have := wkF_mir (ss := rs.reverse) (rs := ss.reverse) (t := u) (by simp; omega) (by simp; omega)
      rw [List.reverse_reverse, List.reverse_reverse, w2] at this
      exact this
    refine ⟨_, rfl, rfl, ?_⟩
    rw [k2, decide_eq_true rfl]
    exact q _ ((((s03.trans s45).trans s57).trans s8).trans s9)
end
/-! the least work within budgets, mirrored -/
theorem win_mir {b a : Nat} {t : T} (h : Win b a t) : Win a b t.mir :=
  ⟨fun x hx => by rw [mir_rc] at hx; exact h.2 x (List.mem_reverse.mp hx), fun x hx => by rw [mir_wr] at hx; exact h.1 x (List.mem_reverse.mp hx)⟩
theorem lwb_mir {ss rs : List Int} (he : ss.length = rs.length) {b a : Nat} {x : Int} (hx : lwb (sm ss) (sm rs) b a 0 ss.length = some x) :
    wkF ss rs (ltb (sm ss) (sm rs) b a 0 ss.length) = x ∧ (ltb (sm ss) (sm rs) b a 0 ss.length).size = ss.length ∧ Win b a (ltb (sm ss) (sm rs) b a 0 ss.length) ∧ ∃ y, lwb (sm rs.reverse) (sm ss.reverse) a b 0 rs.reverse.length = some y ∧ y ≤ x := by
  have hm := mxb_of hx
  have hw := ltb_win (sm ss) (sm rs) _ b a 0 ss.length (Nat.le_refl _) hm
  have hs := ltb_size (sm ss) (sm rs) _ b a 0 ss.length (Nat.le_refl _) hm
  have hk := ltb_wk (ss := ss) (rs := rs) _ b a 0 ss.length x (Nat.le_refl _) (by omega) (by omega) hx
  generalize ltb (sm ss) (sm rs) b a 0 ss.length = t at *
  rw [wkF_I (by omega) (by omega)] at hk
  refine ⟨hk, hs, hw, ?_⟩
  have hms : t.mir.size = rs.reverse.length := by rw [mir_size, List.length_reverse]; omega
  obtain ⟨y, hy, hle⟩ := lwb_le (ss := rs.reverse) (rs := ss.reverse) t.mir a b 0 (win_mir hw) (by omega) (by rw [List.length_reverse]; rw [List.length_reverse] at hms; omega)
  rw [wkF_I (by omega) (by rw [List.length_reverse]; rw [List.length_reverse] at hms; omega), wkF_mir (by omega) (by omega), hk] at hle
  rw [hms] at hy
  exact ⟨y, hy, hle⟩
theorem lwb_mir2 {ss rs : List Int} (he : ss.length = rs.length) {b a : Nat} {x : Int} (hx : lwb (sm ss) (sm rs) b a 0 ss.length = some x) : lwb (sm rs.reverse) (sm ss.reverse) a b 0 rs.reverse.length = some x := by
  obtain ⟨_, _, _, y, hy, h1⟩ := lwb_mir he hx
  obtain ⟨_, _, _, z, hz, h2⟩ := lwb_mir (ss := rs.reverse) (rs := ss.reverse) (by simp [he]) hy
  rw [List.reverse_reverse, List.reverse_reverse, hx] at hz
  cases hz
  rw [hy]
  congr 1
  omega
theorem mxb_mir {b a n : Nat} (h : mxb b a < n) : mxb a b < n := by
  have z : (List.replicate n (0 : Int)).length = n := by simp
  have h1 := (lwb_none (sm (List.replicate n 0)) (sm (List.replicate n 0)) _ b a 0 n (Nat.le_refl _)).mpr h
  refine (lwb_none (sm (List.replicate n 0)) (sm (List.replicate n 0)) _ a b 0 n (Nat.le_refl _)).mp ?_
  cases hx : lwb (sm (List.replicate n 0)) (sm (List.replicate n 0)) a b 0 n with
  | none => rfl
  | some x =>
    have := lwb_mir2 (ss := List.replicate n 0) (rs := List.replicate n 0) rfl (b := a) (a := b) (x := x) (by rw [z]; exact hx)
    rw [List.length_reverse, z, List.reverse_replicate, h1] at this
    cases this
section
variable {P : Program} {w : World} {K : PySem.W.Frag} {mg : Str → Option Value} {base : Heap}
def sp_L_right (K : PySem.W.Frag) : Sp := fun vs H Q _ => ∃ (a : Addr), vs = [.ref a] ∧ Pot H a 0 ∧ ∀ H', But a H H' → Q (.bl true) H'
theorem ok_L_right (TX : Tx K mg) : FnOk P w K mg base CX0 69 TX.a_L_right TX.fd_L_right ["_law_pot_here"] (sp_L_right K) := by
  refine TX.f_L_right.ok sc_L_right (fun vs H Q E h => ?_) (fun cdv A outer s H vs Q E hr h => ?_)
  · obtain ⟨a, rfl, _⟩ := h; rfl
  · obtain ⟨a, rfl, hp, q⟩ := h
    refine ⟨_, (pss_cons (ps_par (i := 1) (j := 2) (by rfl) sc_L_right.nd rfl rfl (by decide) rfl rfl (pa_cons (pe_call (ok_L_take TX) (hr.mono (by decide)) (by rfl) TX.g_L_take TX.f_L_take.kp TX.bd_L_take .nil pass0 (pa_cons (pv 0) (pa_cons pe_int pa_nil))) (pa_cons (pe_call (ok_L_of TX) (hr.mono (by decide)) (by rfl) TX.g_L_of TX.f_L_of.kp TX.bd_L_of .nil pass0 (pa_cons (pv 0) (pa_cons (pe_lst (pa_cons pe_int (pa_cons pe_int (pa_cons (pe_op op_powW pe_int pe_int) pa_nil)))) pa_nil))) pa_nil)) (by rfl))
      (pss_cons (ps_par (i := 3) (j := 4) (by rfl) sc_L_right.nd rfl rfl (by decide) rfl rfl (pa_cons (pe_call (ok_L_load TX) (hr.mono (by decide)) (by rfl) TX.g_L_load TX.f_L_load.kp TX.bd_L_load .nil pass0 (pa_cons (pv 0) (pa_cons (pv 1) (pa_cons (pv 2) pa_nil)))) (pa_cons (pe_call (ok_L_load TX) (hr.mono (by decide)) (by rfl) TX.g_L_load TX.f_L_load.kp TX.bd_L_load .nil pass0 (pa_cons (pv 0) (pa_cons (pv 1) (pa_cons (pv 2) pa_nil)))) pa_nil)) (by rfl))
      (pss_cons (ps_if (pt_not (pt_val (pe_call (ok_L_mirrored_right TX) (hr.mono (by decide)) (by rfl) TX.g_L_mirrored_right TX.f_L_mirrored_right.kp TX.bd_L_mirrored_right .nil pass0 (pa_cons (pv 3) (pa_cons (pv 4) pa_nil)))))
        (pss_one (ps_ret pe_bl))
        pss_nil)
      (pss_cons (ps_par (i := 5) (j := 6) (by rfl) sc_L_right.nd rfl rfl (by decide) rfl rfl (pa_cons (pe_revT (K := K) rfl (pv 4)) (pa_cons (pe_revT (K := K) rfl (pv 3)) pa_nil)) (by rfl))
      (pss_cons (ps_if (pt_cmpR (op_neD hr.units) (pe_call (ok_corners TX) (hr.mono (by decide)) (by rfl) TX.g_corners TX.f_corners.kp TX.bd_corners .nil pass0 (pa_cons (pv 5) (pa_cons (pv 6) pa_nil))) (pe_callTy (T := "tuple") (k_tupOf (K := K) rfl) (by rfl) TX.b_tuple (by decide +kernel) (pa_cons (pe_lc (own := [("_law_one", 9)]) (by rfl) sc_L_right.nd (k_piT (K := K) rfl (pe_revT (K := K) rfl (pe_call (ok_corners TX) (hr.mono (by decide)) (by rfl) TX.g_corners TX.f_corners.kp TX.bd_corners .nil pass0 (pa_cons (pv 3) (pa_cons (pv 4) pa_nil))))) (blkOk_by (own := [("_law_one", 9)]) (N := N_L_right) (sc := defScope s_L_right) (by decide +kernel)) (fun _ _ _ _ _ => (pg_name (i := 9) sc_L_right.nd rfl (Or.inl rfl))) (fun _ _ _ _ _ => pts_nil) (fun _ _ _ _ _ => (pe_tup (pa_cons (pe_ix (k_ixT (K := K) rfl) (pv 9) pe_int (fun _ _ => rfl)) (pa_cons (pe_ix (k_ixT (K := K) rfl) (pv 9) pe_int (fun _ _ => rfl)) pa_nil))))) pa_nil)) (nomark _))
        (pss_one (ps_ret pe_bl))
        pss_nil)
      (pss_cons (ps_for PassesOwn.never rfl (pi_range1 (by rfl) TX.b_range (pa_cons pe_int pa_nil)) (pg_name (i := 7) sc_L_right.nd rfl (.inl rfl))
        (pss_cons (ps_set (i := 8) sc_L_right.nd rfl (.inl rfl) (pe_call (ok_L_take TX) (hr.mono (by decide)) (by rfl) TX.g_L_take TX.f_L_take.kp TX.bd_L_take .nil pass0 (pa_cons (pv 0) (pa_cons pe_int pa_nil))))
        (pss_cons (ps_par (i := 9) (j := 10) (by rfl) sc_L_right.nd rfl rfl (by decide) rfl rfl (pa_cons (pe_call (ok_least_work_within TX) (hr.mono (by decide)) (by rfl) TX.g_least_work_within TX.f_least_work_within.kp TX.bd_least_work_within .nil pass0 (pa_cons (pv 3) (pa_cons (pv 4) (pa_cons (pv 7) (pa_cons (pv 8) pa_nil))))) (pa_cons (pe_call (ok_least_work_within TX) (hr.mono (by decide)) (by rfl) TX.g_least_work_within TX.f_least_work_within.kp TX.bd_least_work_within .nil pass0 (pa_cons (pv 5) (pa_cons (pv 6) (pa_cons (pv 8) (pa_cons (pv 7) pa_nil))))) pa_nil)) (by rfl))
        (pss_one (ps_if (PW.pt (pw_or (pt_cmpR op_isN (pv 9) pe_non (nomark _)) (pw_or1 (pt_cmpR op_isN (pv 10) pe_non (nomark _)))))
          (pss_one (ps_if (PW.pt (pw_or (pt_cmpR op_notN (pv 9) pe_non (nomark _)) (pw_or1 (pt_cmpR op_notN (pv 10) pe_non (nomark _)))))
            (pss_one (ps_ret pe_bl))
            pss_nil))
          (pss_one (ps_if (PW.pt (pw_or (pt_cmpR op_ne (pe_ix (k_ixT (K := K) rfl) (pv 9) pe_int (fun _ _ => rfl)) (pe_ix (k_ixT (K := K) rfl) (pv 10) pe_int (fun _ _ => rfl)) (nomark _)) (pw_or1 (pt_cmpR op_ne (pe_call (ok_work TX) (hr.mono (by decide)) (by rfl) TX.g_work TX.f_work.kp TX.bd_work .nil pass0 (pa_cons (pe_call (ok_mirror TX) (hr.mono (by decide)) (by rfl) TX.g_mirror TX.f_mirror.kp TX.bd_mirror .nil pass0 (pa_cons (pe_ix (k_ixT (K := K) rfl) (pv 9) pe_int (fun _ _ => rfl)) pa_nil)) (pa_cons (pv 5) (pa_cons (pv 6) pa_nil)))) (pe_ix (k_ixT (K := K) rfl) (pv 9) pe_int (fun _ _ => rfl)) (nomark _)))))
            (pss_one (ps_ret pe_bl))
            (pss_one (ps_if (pt_not (pt_val (pe_call (ok_L_within TX) (hr.mono (by decide)) (by rfl) TX.g_L_within TX.f_L_within.kp TX.bd_L_within .nil pass0 (pa_cons (pe_call (ok_mirror TX) (hr.mono (by decide)) (by rfl) TX.g_mirror TX.f_mirror.kp TX.bd_mirror .nil pass0 (pa_cons (pe_ix (k_ixT (K := K) rfl) (pv 9) pe_int (fun _ _ => rfl)) pa_nil)) (pa_cons (pv 8) (pa_cons (pv 7) pa_nil))))))
              (pss_one (ps_ret pe_bl))
              pss_nil)))))))))
      (pss_one (ps_ret pe_bl)))))))), ?_⟩
    refine ⟨.ref a, rfl, a, 11, _, rfl, hp, by decide, by decide, by decide, fun H1 r1 b1 p1 r10 r11 => ?_⟩
    refine ⟨.ref a, rfl, _, _, rfl, rfl, ⟨by decide, by decide +kernel⟩, sz60 (by simp), fun l nl => ?_⟩
    have s2 := same_upd (o := .lst [V.int 1, V.int 3, V.int (10 ^ (9 : Int).toNat)]) nl
    refine ⟨a, l, _, _, rfl, p1.same s2, by decide, upd_same, p1.ne nl, by simp, by simp, fun H3 v b3 p3 hv => ?_⟩
    obtain ⟨wd, rfl, hw1, hw2⟩ : ∃ x : Int, v = .int x ∧ 1 ≤ x ∧ x ≤ 1000000000 := by
      simp only [List.mem_cons, List.not_mem_nil, or_false] at hv
      rcases hv with rfl | rfl | rfl
      · exact ⟨1, rfl, by decide, by decide⟩
      · exact ⟨3, rfl, by decide, by decide⟩
      · exact ⟨_, rfl, by decide, by decide⟩
    have b03 : But a H H3 := (b1.trans (But.of s2)).trans b3
    obtain ⟨k, rfl⟩ : ∃ k : Nat, r1 = (k : Int) := ⟨r1.toNat, by omega⟩
    have hk : k ≤ 10 := by omega
    refine ⟨_, _, rfl, ?_⟩
    refine ⟨.ref a, rfl, _, rfl, _, rfl, a, k, wd, _, rfl, p3, by decide, by omega, hw1, by omega, fun H4 u1 ss b4 p4 l1 c1 h1 => ?_⟩
    refine ⟨.ref a, rfl, _, rfl, _, rfl, a, k, wd, _, rfl, p4, by decide, by omega, hw1, by omega, fun H5 u2 rs b5 p5 l2 c2 h2 => ?_⟩
    refine ⟨_, _, rfl, ?_⟩
    have h1 := (p4.keep (K := K) b5) _ _ h1
    have b05 : But a H H5 := (b03.trans b4).trans b5
    have dS : Lds ss := lds_ofB c1 (by omega)
    have dR : Lds rs := lds_ofB c2 (by omega)
    have he : ss.length = rs.length := by omega
    have hz : ss.length ≤ 10 := by omega
    have her : rs.reverse.length = ss.reverse.length := by simp [he]
    clear c1 c2 p1 p3 p4 b1 b3 b4 b5 s2 hv b03
    refine ⟨.ref u1, rfl, .ref u2, rfl, u1, u2, ss, rs, rfl, h1, h2, he, by omega, dS, dR, fun H6 s6 => ⟨true, rfl, iteF ?_⟩⟩
    refine ⟨.ref u2, rfl, u2, _, rfl, Same.tup s6 h2, fun sw nsw => ?_⟩
    have s7 := same_upd (o := .tup (rs.map V.int).reverse) nsw
    refine ⟨.ref u1, rfl, u1, _, rfl, Same.tup (s6.trans s7) h1, fun tu ntu => ?_⟩
    have s8 := same_upd (o := .tup (ss.map V.int).reverse) ntu
    refine ⟨_, _, rfl, ?_⟩
    have s58 := (s6.trans s7).trans s8
    have hsw : SqT K (upd (upd H6 sw (.tup (rs.map V.int).reverse)) tu (.tup (ss.map V.int).reverse)) sw (rs.reverse.map V.int) := by
      rw [← ints_revM]; exact .inl (.inl (s8 _ _ upd_same))
    have htu : SqT K (upd (upd H6 sw (.tup (rs.map V.int).reverse)) tu (.tup (ss.map V.int).reverse)) tu (ss.reverse.map V.int) := by
      rw [← ints_revM]; exact .inl (.inl upd_same)
    have h1 := Same.tup s58 h1
    have h2 := Same.tup s58 h2
    have p8 := p5.same s58
    have b08 := b05.trans (But.of s58)
    clear s6 s7 s8 s58 p5 b05 nsw ntu
    generalize upd (upd H6 sw (.tup (rs.map V.int).reverse)) tu (.tup (ss.map V.int).reverse) = H8 at *
    have hcap : Cap (SP ss rs) 58786 := cap_cat (f := 11) (by omega) (cn_11 _ (by omega))
    have hcap' : Cap (SP rs.reverse ss.reverse) 58786 := cap_cat (f := 11) (by simp; omega) (cn_11 _ (by simp; omega))
    obtain ⟨res, hC, hH⟩ := crn_hull dS dR he (by omega) hcap
    obtain ⟨res', hC', hH'⟩ := crn_hull (lds_revM dR) (lds_revM dS) her (by simp; omega) hcap'
    have hres : (res.map (pnt ss rs)).length ≤ 58786 := hcap _ hH.inc hH.sub
    have hres' : (res'.map (pnt rs.reverse ss.reverse)).length ≤ 58786 := hcap' _ hH'.inc hH'.sub
    have hMir := hH'.uniq (hH.mirror (sp_nn dS dR he) (sp_mir he)) (sp_nn (lds_revM dR) (lds_revM dS) her)
    obtain ⟨L, hL⟩ : ∃ L, L = res.map (pnt ss rs) := ⟨_, rfl⟩
    have edat : (PyData.tuple (res.map fun t => dP (pnt ss rs t))) = .tuple (dPs L) := by rw [hL]; unfold dPs; rw [List.map_map]; rfl
    have edat' : (PyData.tuple (res'.map fun t => dP (pnt rs.reverse ss.reverse t))) = .tuple (dPs (L.map swapP).reverse) := by rw [hL, ← hMir]; unfold dPs; rw [List.map_map]; rfl
    have hLl : L.length ≤ 58786 := by rw [hL]; exact hres
    refine ⟨.ref sw, rfl, .ref tu, rfl, sw, tu, rs.reverse, ss.reverse, res', 58786, rfl, hsw, htu, her, by simp; omega, lds_revM dR, lds_revM dS, hC', by decide, by simpa using hres', fun H9 o9 s9 ho9 => ?_⟩
    rw [edat'] at ho9
    refine ⟨.ref u1, rfl, .ref u2, rfl, u1, u2, ss, rs, res, 58786, rfl, Same.tup s9 h1, Same.tup s9 h2, he, by omega, dS, dR, hC, by decide, by simpa using hres, fun H10 o10 s10 ho10 => ?_⟩
    rw [edat] at ho10
    obtain ⟨o', ox, e3, hO, hOx⟩ := Dp.tupInv ho10
    cases e3
    have olen := DpAll.len hOx
    simp only [dPs, List.length_map] at olen
    refine ⟨o10, ox, rfl, hO, fun p np => ?_⟩
    have s11 := same_upd (o := .tup ox.reverse) np
    have hP : SqT K (upd H10 p (.tup ox.reverse)) p ox.reverse := .inl (.inl upd_same)
    have hOx := DpAll.same s11 hOx
    clear hO ho10 np
    generalize upd H10 p (.tup ox.reverse) = H11 at *
    refine ⟨p, rfl, ⟨_, hP⟩, fun D nD => ?_⟩
    refine lc_allB (K := K) (walk_tup (xs := ox.reverse)) (dPs (L.map swapP).reverse) (by simp [dPs, olen]) (tf_dPs _) (szB' (by simp; omega)) nD (fun H' s' => Same.tup s' hP) ?_ ?_ (fun x σ' H' Q Q' h => h _ _) (fun σ' H' Q Q' h => h _ _)
    · rintro j v Hx Hx' hj sx ⟨rfl, hxj⟩ d hd R hR
      have hjc : j < L.length := by simp [olen] at hj; omega
      rw [List.getElem?_reverse (by omega), olen] at hxj
      obtain ⟨v', hv', hD⟩ := DpAll.get (DpAll.same sx hOx) (i := L.length - 1 - j) (d := dP (L[L.length - 1 - j])) (by rw [dPs, List.getElem?_map, List.getElem?_eq_getElem (by omega)]; rfl)
      rw [hxj] at hv'
      cases hv'
      obtain ⟨pa, rfl, hpa⟩ := dP_inv hD
      have ed : d = dP (swapP (L[L.length - 1 - j])) := by
        rw [dPs, List.getElem?_map, List.getElem?_reverse (by simpa using hjc), List.length_map, List.getElem?_map, List.getElem?_eq_getElem (by omega)] at hd
        exact (Option.some.inj hd).symm
      rw [ed] at hR
      refine ⟨rfl, rfl, _, rfl, pa, _, 1, _, rfl, rfl, hpa, rfl, _, rfl, pa, _, 0, _, rfl, rfl, hpa, rfl, sz60 (by simp), fun t nt => ?_⟩
      refine hR _ _ (same_upd nt) ?_
      exact dp_tup (ns := [(swapP L[L.length - 1 - j]).1, (swapP L[L.length - 1 - j]).2]) (.inl (.inl upd_same))
    intro H12 acc s12 ha hA
    refine ⟨D, _, rfl, .inl ⟨.inl (.inl ha), fun o2 no => ?_⟩⟩
    have s13 := same_upd (o := .tup acc) no
    refine ⟨_, _, Dp.same (((s10.trans s11).trans s12).trans s13) ho9, .tup (.inl (.inl upd_same)) (DpAll.same s13 hA), (sh_pts _).shaped (by decide), (sh_pts _).shaped (by decide), _, rfl, iteB0 (by rw [SeqAt.eqv_refl _ (sh_pts (L.map swapP).reverse).1]; rfl) ?_⟩
    have s8_13 := (((s9.trans s10).trans s11).trans s12).trans s13
    have h1 := Same.tup s8_13 h1
    have h2 := Same.tup s8_13 h2
    have hsw := Same.tup s8_13 hsw
    have htu := Same.tup s8_13 htu
    have p13 := p8.same s8_13
    have b013 := b08.trans (But.of s8_13)
    clear s9 s10 s11 s12 s13 s8_13 ho9 hA hOx p8 b08 hC hC' hH hH' hMir edat edat' hres hres' hcap hcap' nD no ha hP
    generalize upd H12 o2 (.tup acc) = G at *
    refine ⟨6, rfl, by decide, by decide, for_range (lo := 0) (fun x σ H' => ∃ y7 y8 y9 y10, σ = [some (.ref a), some (.int (k : Int)), some (.int wd), some (.ref u1), some (.ref u2), some (.ref sw), some (.ref tu), y7, y8, y9, y10] ∧ But a G H' ∧ Pot H' a (806 + (x : Int))) ⟨_, _, _, _, rfl, But.of (Same.refl _), p13.mono (by omega)⟩ ?_ ?_⟩
    · rintro x σ G1 hx ⟨y7, y8, y9, y10, rfl, bx, px⟩
      have hx6 : x < 6 := hx
      have ex : (0 : Int) + ((x : Nat) : Int) = ((x : Nat) : Int) := by omega
      rw [ex]
      refine ⟨.ref a, rfl, a, 6, _, rfl, px, by omega, by decide, by decide, fun G2 r2 b2 p2 r20 r21 => ?_⟩
      obtain ⟨c, rfl⟩ : ∃ c : Nat, r2 = (c : Int) := ⟨r2.toNat, by omega⟩
      have hc6 : c < 6 := by omega
      obtain ⟨_, _, _, hpa, _⟩ := id p13
      have bk := bx.trans b2
      have kp := p13.keep (K := K) bk
      have g1 := kp _ _ h1
      have g2 := kp _ _ h2
      have g3 := kp _ _ hsw
      have g4 := kp _ _ htu
      have fin : ∀ (σ' : L2.St) (H' : Hp), Same G2 H' → (∃ y7 y8 y9 y10, σ' = [some (V.ref a), some (V.int (k : Int)), some (V.int wd), some (V.ref u1), some (V.ref u2), some (V.ref sw), some (V.ref tu), y7, y8, y9, y10]) → ∃ y7 y8 y9 y10, σ' = [some (V.ref a), some (V.int (k : Int)), some (V.int wd), some (V.ref u1), some (V.ref u2), some (V.ref sw), some (V.ref tu), y7, y8, y9, y10] ∧ But a G H' ∧ Pot H' a (806 + ((x + 1 : Nat) : Int)) := fun σ' H' s' ⟨y7, y8, y9, y10, e⟩ => ⟨y7, y8, y9, y10, e, bk.trans (But.of s'), (p2.same s').mono (by omega)⟩
      refine ⟨.ref u1, rfl, .ref u2, rfl, _, rfl, _, rfl, u1, u2, ss, rs, x, c, rfl, g1, g2, dS, dR, he, by omega, by omega, by omega, fun G3 s3 => ⟨fun hlt => ?_, fun v p1 rr hv e1 e2 => ?_⟩⟩
      · refine ⟨.ref sw, rfl, .ref tu, rfl, _, rfl, _, rfl, sw, tu, rs.reverse, ss.reverse, c, x, rfl, Same.tup s3 g3, Same.tup s3 g4, lds_revM dR, lds_revM dS, her, by simp; omega, by omega, by omega, fun G4 s4 => ⟨fun hlt2 => ?_, fun v p1 rr hv e1 e2 => ?_⟩⟩
        · refine ⟨_, _, rfl, ?_⟩
          refine ⟨_, rfl, rfl, _, rfl, iteB1 (by simp) ?_⟩
          refine ⟨_, rfl, rfl, _, rfl, iteB0 (by simp) ?_⟩
          refine ⟨_, rfl, rfl, _, rfl, iteB0 (by simp) ?_⟩
          exact fin _ _ (s3.trans s4) ⟨_, _, _, _, rfl⟩
        · have := mxb_of hv
          have := mxb_mir hlt
          simp at *
          omega
      · obtain ⟨hk1, hk2, hk3, _⟩ := lwb_mir he hv
        have hv2 := lwb_mir2 he hv
        refine ⟨.ref sw, rfl, .ref tu, rfl, _, rfl, _, rfl, sw, tu, rs.reverse, ss.reverse, c, x, rfl, Same.tup s3 g3, Same.tup s3 g4, lds_revM dR, lds_revM dS, her, by simp; omega, by omega, by omega, fun G4 s4 => ⟨fun hlt2 => ?_, fun v2 p2 rr2 hv3 e3 e4 => ?_⟩⟩
        · have := mxb_of hv2
          omega
        · rw [hv2] at hv3
          cases hv3
          refine ⟨_, _, rfl, ?_⟩
          have s34 := s3.trans s4
          refine ⟨_, rfl, rfl, _, rfl, iteB0 (by simp) ?_⟩
          refine ⟨_, rfl, rfl, _, rfl, iteB0 (by simp) ?_⟩
          refine ⟨_, rfl, p1, _, 0, _, rfl, rfl, Same.tup s4 e1, rfl, _, rfl, p2, _, 0, _, rfl, rfl, e3, rfl, rfl, _, rfl, iteB0 (by simp) ?_⟩
          obtain ⟨t, ht⟩ : ∃ t, t = ltb (sm ss) (sm rs) x c 0 ss.length := ⟨_, rfl⟩
          rw [← ht] at hk1 hk2 hk3 e2
          have mz : t.mir.size = ss.length := by rw [mir_size]; exact hk2
          have wm : dot rs.reverse t.mir.wr + dot ss.reverse t.mir.rc = v := by
            have := wkF_mir (ss := ss) (rs := rs) (t := t) (by omega) (by omega)
            rw [hk1] at this
            exact this
          refine ⟨_, rfl, p1, _, 1, _, rfl, rfl, Same.tup s4 e1, rfl, rr, t, rfl, Same.tup s4 e2, by omega, fun G5 o s5 ho => ?_⟩
          refine ⟨_, rfl, _, rfl, o, sw, tu, t.mir, rs.reverse, ss.reverse, rfl, ho, Same.tup (s34.trans s5) g3, Same.tup (s34.trans s5) g4, by simp; omega, by simp; omega, by omega, lds_revM dR, lds_revM dS, fun G6 s6 => ?_⟩
          have s46 := s4.trans (s5.trans s6)
          refine ⟨_, rfl, p1, _, 0, _, rfl, rfl, Same.tup s46 e1, rfl, rfl, _, rfl, iteB0 (by rw [wm]; simp) ?_⟩
          refine ⟨_, rfl, p1, _, 1, _, rfl, rfl, Same.tup s46 e1, rfl, rr, t, rfl, Same.tup s46 e2, by omega, fun G7 o2 s7 ho2 => ?_⟩
          refine ⟨_, rfl, _, rfl, o2, t.mir, c, x, rfl, ho2, by omega, win_mir hk3, fun G8 s8 => ⟨true, rfl, iteF ?_⟩⟩
          exact fin _ _ (s3.trans (s46.trans (s7.trans s8))) ⟨_, _, _, _, rfl⟩
    · rintro σ G1 ⟨y7, y8, y9, y10, rfl, bx, px⟩
      exact q _ (b013.trans bx)
def sp_law (K : PySem.W.Frag) : Sp := fun vs H Q _ => ∃ (a : Addr) (ns : List Int), vs = [.ref a] ∧ SqL K H a (ns.map V.int) ∧ ns.length ≤ 63 ∧ ∀ H', Q (.bl true) H'
theorem ok_law (TX : Tx K mg) : FnOk P w K mg base CX0 70 TX.a_law TX.fd_law ["_law_script"] (sp_law K) := by
  refine TX.f_law.ok sc_law (fun vs H Q E h => ?_) (fun cdv A outer s H vs Q E hr h => ?_)
  · obtain ⟨a, ns, rfl, _⟩ := h; rfl
  · obtain ⟨sa, ns, rfl, hS, hlen, q⟩ := h
    refine ⟨_, (pss_cons (ps_set (i := 1) sc_law.nd rfl (.inl rfl) (pe_call (ok_L_pot TX) (hr.mono (by decide)) (by rfl) TX.g_L_pot TX.f_L_pot.kp TX.bd_L_pot .nil pass0 (pa_cons (pv 0) (pa_cons pe_int pa_nil))))
      (pss_cons (ps_if (pt_not (pt_val (pe_call (ok_L_mirrored_right TX) (hr.mono (by decide)) (by rfl) TX.g_L_mirrored_right TX.f_L_mirrored_right.kp TX.bd_L_mirrored_right .nil pass0 (pa_cons (pe_call (ok_L_load TX) (hr.mono (by decide)) (by rfl) TX.g_L_load TX.f_L_load.kp TX.bd_L_load .nil pass0 (pa_cons (pv 1) (pa_cons pe_int (pa_cons (pe_op op_powW pe_int pe_int) pa_nil)))) (pa_cons (pe_call (ok_L_load TX) (hr.mono (by decide)) (by rfl) TX.g_L_load TX.f_L_load.kp TX.bd_L_load .nil pass0 (pa_cons (pv 1) (pa_cons pe_int (pa_cons (pe_op op_powW pe_int pe_int) pa_nil)))) pa_nil)))))
        (pss_one (ps_ret pe_bl))
        pss_nil)
      (pss_one (ps_ret (pe_callB (id := "all") (cr_all rfl) (by rfl) TX.b_all (by decide +kernel) (pa_cons (pe_lc (own := [("_law_k", 2)]) (by rfl) sc_law.nd (pi_range1 (by rfl) TX.b_range (pa_cons (pe_op op_add pe_int (pe_callB (id := "min") (call_min2 rfl) (by rfl) TX.b_min (by decide +kernel) (pa_cons pe_int (pa_cons (pe_callB (id := "len") (k_len (K := K) rfl) (by rfl) TX.b_len (by decide +kernel) (pa_cons (pv 0) pa_nil)) pa_nil)))) pa_nil)) (blkOk_by (own := [("_law_k", 2)]) (N := N_law) (sc := defScope s_law) (by decide +kernel)) (fun _ _ _ _ _ => (pg_name (i := 2) sc_law.nd rfl (Or.inl rfl))) (fun _ _ _ _ _ => pts_nil) (fun _ _ _ _ _ => (pe_call (ok_L_right TX) (hr.mono (by decide)) (by rfl) TX.g_L_right TX.f_L_right.kp TX.bd_L_right .nil pass0 (pa_cons (pe_call (ok_L_pot TX) (hr.mono (by decide)) (by rfl) TX.g_L_pot TX.f_L_pot.kp TX.bd_L_pot .nil pass0 (pa_cons (pv 0) (pa_cons (pv 2) pa_nil))) pa_nil)))) pa_nil)))))), ?_⟩
    refine ⟨.ref sa, rfl, sa, ns, 0, rfl, hS, by omega, fun H1 a s1 na pp => ?_⟩
    refine ⟨.ref a, rfl, _, _, rfl, rfl, ⟨by decide, by decide +kernel⟩, a, 60, _, _, rfl, pp, by decide, by decide, by decide, by decide, fun H4 u1 ss b4 p4 l1 c1 h1 => ?_⟩
    refine ⟨.ref a, rfl, _, _, rfl, rfl, ⟨by decide, by decide +kernel⟩, a, 60, _, _, rfl, p4, by decide, by decide, by decide, by decide, fun H5 u2 rs b5 p5 l2 c2 h2 => ?_⟩
    have h1 := (p4.keep (K := K) b5) _ _ h1
    have dS : Lds ss := lds_ofB c1 (by decide)
    have dR : Lds rs := lds_ofB c2 (by decide)
    refine ⟨u1, u2, ss, rs, rfl, h1, h2, by omega, by omega, dS, dR, fun H6 s6 => ⟨true, rfl, iteF ?_⟩⟩
    have s16 : Same H H6 := (But.same s1 (b4.trans b5) na).trans s6
    have hS9 := s16.seq hS
    refine ⟨.ref sa, rfl, sa, _, rfl, .inl hS9, _, _, rfl, _, _, rfl, rfl, ?_⟩
    obtain ⟨m, hm⟩ : ∃ m : Nat, m = (1 + (if ((ns.map V.int).length : Int) < 3 then ((ns.map V.int).length : Int) else 3)).toNat := ⟨_, rfl⟩
    have hm2 : m ≤ 4 := by rw [hm]; split <;> omega
    refine ⟨_, rfl, by split <;> omega, by split <;> omega, fun D nD => ?_⟩
    refine lc_all (K := K) walk_range ((List.replicate m true).map PyData.bool) (by rw [List.length_map, List.length_replicate, hm]) (fun d h => by obtain ⟨b, _, rfl⟩ := List.mem_map.mp h; exact .bl b) (by split <;> omega) nD (fun _ _ => trivial) ?_ ?_ (fun x σ' H' Q Q' h => h _ _) (fun σ' H' Q Q' h => h _ _)
    · rintro i x Hx Hx' hi sx hy d hd R hR
      obtain ⟨rfl, rfl⟩ := hy
      have hi2 : i < m := by rw [hm]; exact hi
      have ei : (0 : Int) + ((i : Nat) : Int) = ((i : Nat) : Int) := by omega
      dsimp only
      rw [ei]
      rw [List.getElem?_map, List.getElem?_replicate, if_pos hi2] at hd
      cases hd
      refine ⟨rfl, rfl, .ref sa, rfl, _, rfl, sa, ns, i, rfl, sx.seq hS9, by omega, fun H2 p s2 np pp => ?_⟩
      exact ⟨p, rfl, pp, fun H3 b3 => hR _ _ (But.same s2 b3 np) (.bl true)⟩
    · intro H2 acc s2 ha hA
      rw [dpBoolsI hA] at ha
      refine ⟨D, List.replicate m true, rfl, .inl (.inl ha), ?_⟩
      rw [show (List.replicate m true).all id = true by simp]
      exact q _
end
theorem all_mk {l : PySem.W.OpenLaw} {w : World} {K : PySem.W.Frag} {h : Heap} {mg : Str → Option Value} {fa : Addr} (X : K.In h) (G : h.Ns mainGlobals mg) (hfa : mg "law" = some (.ref fa))
    {f_is_int : Addr} {od_is_int an_is_int : Option Addr} {sl_is_int : Array (Option Value)} {oc_is_int kV_is_int dc_is_int pm_is_int cd_is_int ct_is_int : Value}
    (a_is_int : PySem.W.nsIn K mainGlobals "is_int" = some (some (.ref f_is_int))) (l_is_int : K.lookup f_is_int = some ⟨oc_is_int, od_is_int, .func (PySem.W.fnOf "is_int" "is_int" (defArgs s_is_int) (defBody s_is_int) (defScope s_is_int) .none kV_is_int dc_is_int pm_is_int an_is_int cd_is_int ct_is_int), sl_is_int⟩) (c_is_int : PySem.W.codeIn K cd_is_int "is_int" = true) (k_is_int : PySem.W.keepIn K (.ref f_is_int) = true)
    {f_is_count : Addr} {od_is_count an_is_count : Option Addr} {sl_is_count : Array (Option Value)} {oc_is_count kV_is_count dc_is_count pm_is_count cd_is_count ct_is_count : Value}
    (a_is_count : PySem.W.nsIn K mainGlobals "is_count" = some (some (.ref f_is_count))) (l_is_count : K.lookup f_is_count = some ⟨oc_is_count, od_is_count, .func (PySem.W.fnOf "is_count" "is_count" (defArgs s_is_count) (defBody s_is_count) (defScope s_is_count) .none kV_is_count dc_is_count pm_is_count an_is_count cd_is_count ct_is_count), sl_is_count⟩) (c_is_count : PySem.W.codeIn K cd_is_count "is_count" = true) (k_is_count : PySem.W.keepIn K (.ref f_is_count) = true)
    {f_is_count_up_to : Addr} {od_is_count_up_to an_is_count_up_to : Option Addr} {sl_is_count_up_to : Array (Option Value)} {oc_is_count_up_to kV_is_count_up_to dc_is_count_up_to pm_is_count_up_to cd_is_count_up_to ct_is_count_up_to : Value}
    (a_is_count_up_to : PySem.W.nsIn K mainGlobals "is_count_up_to" = some (some (.ref f_is_count_up_to))) (l_is_count_up_to : K.lookup f_is_count_up_to = some ⟨oc_is_count_up_to, od_is_count_up_to, .func (PySem.W.fnOf "is_count_up_to" "is_count_up_to" (defArgs s_is_count_up_to) (defBody s_is_count_up_to) (defScope s_is_count_up_to) .none kV_is_count_up_to dc_is_count_up_to pm_is_count_up_to an_is_count_up_to cd_is_count_up_to ct_is_count_up_to), sl_is_count_up_to⟩) (c_is_count_up_to : PySem.W.codeIn K cd_is_count_up_to "is_count_up_to" = true) (k_is_count_up_to : PySem.W.keepIn K (.ref f_is_count_up_to) = true)
    {f_check_budgets : Addr} {od_check_budgets an_check_budgets : Option Addr} {sl_check_budgets : Array (Option Value)} {oc_check_budgets kV_check_budgets dc_check_budgets pm_check_budgets cd_check_budgets ct_check_budgets : Value}
    (a_check_budgets : PySem.W.nsIn K mainGlobals "check_budgets" = some (some (.ref f_check_budgets))) (l_check_budgets : K.lookup f_check_budgets = some ⟨oc_check_budgets, od_check_budgets, .func (PySem.W.fnOf "check_budgets" "check_budgets" (defArgs s_check_budgets) (defBody s_check_budgets) (defScope s_check_budgets) .none kV_check_budgets dc_check_budgets pm_check_budgets an_check_budgets cd_check_budgets ct_check_budgets), sl_check_budgets⟩) (c_check_budgets : PySem.W.codeIn K cd_check_budgets "check_budgets" = true) (k_check_budgets : PySem.W.keepIn K (.ref f_check_budgets) = true)
    {f_are_loads : Addr} {od_are_loads an_are_loads : Option Addr} {sl_are_loads : Array (Option Value)} {oc_are_loads kV_are_loads dc_are_loads pm_are_loads cd_are_loads ct_are_loads : Value}
    (a_are_loads : PySem.W.nsIn K mainGlobals "are_loads" = some (some (.ref f_are_loads))) (l_are_loads : K.lookup f_are_loads = some ⟨oc_are_loads, od_are_loads, .func (PySem.W.fnOf "are_loads" "are_loads" (defArgs s_are_loads) (defBody s_are_loads) (defScope s_are_loads) .none kV_are_loads dc_are_loads pm_are_loads an_are_loads cd_are_loads ct_are_loads), sl_are_loads⟩) (c_are_loads : PySem.W.codeIn K cd_are_loads "are_loads" = true) (k_are_loads : PySem.W.keepIn K (.ref f_are_loads) = true)
    {f_check_sizes : Addr} {od_check_sizes an_check_sizes : Option Addr} {sl_check_sizes : Array (Option Value)} {oc_check_sizes kV_check_sizes dc_check_sizes pm_check_sizes cd_check_sizes ct_check_sizes : Value}
    (a_check_sizes : PySem.W.nsIn K mainGlobals "check_sizes" = some (some (.ref f_check_sizes))) (l_check_sizes : K.lookup f_check_sizes = some ⟨oc_check_sizes, od_check_sizes, .func (PySem.W.fnOf "check_sizes" "check_sizes" (defArgs s_check_sizes) (defBody s_check_sizes) (defScope s_check_sizes) .none kV_check_sizes dc_check_sizes pm_check_sizes an_check_sizes cd_check_sizes ct_check_sizes), sl_check_sizes⟩) (c_check_sizes : PySem.W.codeIn K cd_check_sizes "check_sizes" = true) (k_check_sizes : PySem.W.keepIn K (.ref f_check_sizes) = true)
    {f_check_reads : Addr} {od_check_reads an_check_reads : Option Addr} {sl_check_reads : Array (Option Value)} {oc_check_reads kV_check_reads dc_check_reads pm_check_reads cd_check_reads ct_check_reads : Value}
    (a_check_reads : PySem.W.nsIn K mainGlobals "check_reads" = some (some (.ref f_check_reads))) (l_check_reads : K.lookup f_check_reads = some ⟨oc_check_reads, od_check_reads, .func (PySem.W.fnOf "check_reads" "check_reads" (defArgs s_check_reads) (defBody s_check_reads) (defScope s_check_reads) .none kV_check_reads dc_check_reads pm_check_reads an_check_reads cd_check_reads ct_check_reads), sl_check_reads⟩) (c_check_reads : PySem.W.codeIn K cd_check_reads "check_reads" = true) (k_check_reads : PySem.W.keepIn K (.ref f_check_reads) = true)
    {f_check_loads : Addr} {od_check_loads an_check_loads : Option Addr} {sl_check_loads : Array (Option Value)} {oc_check_loads kV_check_loads dc_check_loads pm_check_loads cd_check_loads ct_check_loads : Value}
    (a_check_loads : PySem.W.nsIn K mainGlobals "check_loads" = some (some (.ref f_check_loads))) (l_check_loads : K.lookup f_check_loads = some ⟨oc_check_loads, od_check_loads, .func (PySem.W.fnOf "check_loads" "check_loads" (defArgs s_check_loads) (defBody s_check_loads) (defScope s_check_loads) .none kV_check_loads dc_check_loads pm_check_loads an_check_loads cd_check_loads ct_check_loads), sl_check_loads⟩) (c_check_loads : PySem.W.codeIn K cd_check_loads "check_loads" = true) (k_check_loads : PySem.W.keepIn K (.ref f_check_loads) = true)
    {f_is_schedule : Addr} {od_is_schedule an_is_schedule : Option Addr} {sl_is_schedule : Array (Option Value)} {oc_is_schedule kV_is_schedule dc_is_schedule pm_is_schedule cd_is_schedule ct_is_schedule : Value}
    (a_is_schedule : PySem.W.nsIn K mainGlobals "is_schedule" = some (some (.ref f_is_schedule))) (l_is_schedule : K.lookup f_is_schedule = some ⟨oc_is_schedule, od_is_schedule, .func (PySem.W.fnOf "is_schedule" "is_schedule" (defArgs s_is_schedule) (defBody s_is_schedule) (defScope s_is_schedule) .none kV_is_schedule dc_is_schedule pm_is_schedule an_is_schedule cd_is_schedule ct_is_schedule), sl_is_schedule⟩) (c_is_schedule : PySem.W.codeIn K cd_is_schedule "is_schedule" = true) (k_is_schedule : PySem.W.keepIn K (.ref f_is_schedule) = true)
    {f_stacks : Addr} {od_stacks an_stacks : Option Addr} {sl_stacks : Array (Option Value)} {oc_stacks kV_stacks dc_stacks pm_stacks cd_stacks ct_stacks : Value}
    (a_stacks : PySem.W.nsIn K mainGlobals "stacks" = some (some (.ref f_stacks))) (l_stacks : K.lookup f_stacks = some ⟨oc_stacks, od_stacks, .func (PySem.W.fnOf "stacks" "stacks" (defArgs s_stacks) (defBody s_stacks) (defScope s_stacks) .none kV_stacks dc_stacks pm_stacks an_stacks cd_stacks ct_stacks), sl_stacks⟩) (c_stacks : PySem.W.codeIn K cd_stacks "stacks" = true) (k_stacks : PySem.W.keepIn K (.ref f_stacks) = true)
    {f_stack_after : Addr} {od_stack_after an_stack_after : Option Addr} {sl_stack_after : Array (Option Value)} {oc_stack_after kV_stack_after dc_stack_after pm_stack_after cd_stack_after ct_stack_after : Value}
    (a_stack_after : PySem.W.nsIn K mainGlobals "stack_after" = some (some (.ref f_stack_after))) (l_stack_after : K.lookup f_stack_after = some ⟨oc_stack_after, od_stack_after, .func (PySem.W.fnOf "stack_after" "stack_after" (defArgs s_stack_after) (defBody s_stack_after) (defScope s_stack_after) .none kV_stack_after dc_stack_after pm_stack_after an_stack_after cd_stack_after ct_stack_after), sl_stack_after⟩) (c_stack_after : PySem.W.codeIn K cd_stack_after "stack_after" = true) (k_stack_after : PySem.W.keepIn K (.ref f_stack_after) = true)
    {f_writes : Addr} {od_writes an_writes : Option Addr} {sl_writes : Array (Option Value)} {oc_writes kV_writes dc_writes pm_writes cd_writes ct_writes : Value}
    (a_writes : PySem.W.nsIn K mainGlobals "writes" = some (some (.ref f_writes))) (l_writes : K.lookup f_writes = some ⟨oc_writes, od_writes, .func (PySem.W.fnOf "writes" "writes" (defArgs s_writes) (defBody s_writes) (defScope s_writes) .none kV_writes dc_writes pm_writes an_writes cd_writes ct_writes), sl_writes⟩) (c_writes : PySem.W.codeIn K cd_writes "writes" = true) (k_writes : PySem.W.keepIn K (.ref f_writes) = true)
    {f_run_counts : Addr} {od_run_counts an_run_counts : Option Addr} {sl_run_counts : Array (Option Value)} {oc_run_counts kV_run_counts dc_run_counts pm_run_counts cd_run_counts ct_run_counts : Value}
    (a_run_counts : PySem.W.nsIn K mainGlobals "run_counts" = some (some (.ref f_run_counts))) (l_run_counts : K.lookup f_run_counts = some ⟨oc_run_counts, od_run_counts, .func (PySem.W.fnOf "run_counts" "run_counts" (defArgs s_run_counts) (defBody s_run_counts) (defScope s_run_counts) .none kV_run_counts dc_run_counts pm_run_counts an_run_counts cd_run_counts ct_run_counts), sl_run_counts⟩) (c_run_counts : PySem.W.codeIn K cd_run_counts "run_counts" = true) (k_run_counts : PySem.W.keepIn K (.ref f_run_counts) = true)
    {f_runs_at_end : Addr} {od_runs_at_end an_runs_at_end : Option Addr} {sl_runs_at_end : Array (Option Value)} {oc_runs_at_end kV_runs_at_end dc_runs_at_end pm_runs_at_end cd_runs_at_end ct_runs_at_end : Value}
    (a_runs_at_end : PySem.W.nsIn K mainGlobals "runs_at_end" = some (some (.ref f_runs_at_end))) (l_runs_at_end : K.lookup f_runs_at_end = some ⟨oc_runs_at_end, od_runs_at_end, .func (PySem.W.fnOf "runs_at_end" "runs_at_end" (defArgs s_runs_at_end) (defBody s_runs_at_end) (defScope s_runs_at_end) .none kV_runs_at_end dc_runs_at_end pm_runs_at_end an_runs_at_end cd_runs_at_end ct_runs_at_end), sl_runs_at_end⟩) (c_runs_at_end : PySem.W.codeIn K cd_runs_at_end "runs_at_end" = true) (k_runs_at_end : PySem.W.keepIn K (.ref f_runs_at_end) = true)
    {f_least_work : Addr} {od_least_work an_least_work : Option Addr} {sl_least_work : Array (Option Value)} {oc_least_work kV_least_work dc_least_work pm_least_work cd_least_work ct_least_work : Value}
    (a_least_work : PySem.W.nsIn K mainGlobals "least_work" = some (some (.ref f_least_work))) (l_least_work : K.lookup f_least_work = some ⟨oc_least_work, od_least_work, .func (PySem.W.fnOf "least_work" "least_work" (defArgs s_least_work) (defBody s_least_work) (defScope s_least_work) .none kV_least_work dc_least_work pm_least_work an_least_work cd_least_work ct_least_work), sl_least_work⟩) (c_least_work : PySem.W.codeIn K cd_least_work "least_work" = true) (k_least_work : PySem.W.keepIn K (.ref f_least_work) = true)
    {f_least_of : Addr} {od_least_of an_least_of : Option Addr} {sl_least_of : Array (Option Value)} {oc_least_of kV_least_of dc_least_of pm_least_of cd_least_of ct_least_of : Value}
    (a_least_of : PySem.W.nsIn K mainGlobals "least_of" = some (some (.ref f_least_of))) (l_least_of : K.lookup f_least_of = some ⟨oc_least_of, od_least_of, .func (PySem.W.fnOf "least_of" "least_of" (defArgs s_least_of) (defBody s_least_of) (defScope s_least_of) .none kV_least_of dc_least_of pm_least_of an_least_of cd_least_of ct_least_of), sl_least_of⟩) (c_least_of : PySem.W.codeIn K cd_least_of "least_of" = true) (k_least_of : PySem.W.keepIn K (.ref f_least_of) = true)
    {f_least_rows : Addr} {od_least_rows an_least_rows : Option Addr} {sl_least_rows : Array (Option Value)} {oc_least_rows kV_least_rows dc_least_rows pm_least_rows cd_least_rows ct_least_rows : Value}
    (a_least_rows : PySem.W.nsIn K mainGlobals "least_rows" = some (some (.ref f_least_rows))) (l_least_rows : K.lookup f_least_rows = some ⟨oc_least_rows, od_least_rows, .func (PySem.W.fnOf "least_rows" "least_rows" (defArgs s_least_rows) (defBody s_least_rows) (defScope s_least_rows) .none kV_least_rows dc_least_rows pm_least_rows an_least_rows cd_least_rows ct_least_rows), sl_least_rows⟩) (c_least_rows : PySem.W.codeIn K cd_least_rows "least_rows" = true) (k_least_rows : PySem.W.keepIn K (.ref f_least_rows) = true)
    {f_load_sums : Addr} {od_load_sums an_load_sums : Option Addr} {sl_load_sums : Array (Option Value)} {oc_load_sums kV_load_sums dc_load_sums pm_load_sums cd_load_sums ct_load_sums : Value}
    (a_load_sums : PySem.W.nsIn K mainGlobals "load_sums" = some (some (.ref f_load_sums))) (l_load_sums : K.lookup f_load_sums = some ⟨oc_load_sums, od_load_sums, .func (PySem.W.fnOf "load_sums" "load_sums" (defArgs s_load_sums) (defBody s_load_sums) (defScope s_load_sums) .none kV_load_sums dc_load_sums pm_load_sums an_load_sums cd_load_sums ct_load_sums), sl_load_sums⟩) (c_load_sums : PySem.W.codeIn K cd_load_sums "load_sums" = true) (k_load_sums : PySem.W.keepIn K (.ref f_load_sums) = true)
    {f_running_sums : Addr} {od_running_sums an_running_sums : Option Addr} {sl_running_sums : Array (Option Value)} {oc_running_sums kV_running_sums dc_running_sums pm_running_sums cd_running_sums ct_running_sums : Value}
    (a_running_sums : PySem.W.nsIn K mainGlobals "running_sums" = some (some (.ref f_running_sums))) (l_running_sums : K.lookup f_running_sums = some ⟨oc_running_sums, od_running_sums, .func (PySem.W.fnOf "running_sums" "running_sums" (defArgs s_running_sums) (defBody s_running_sums) (defScope s_running_sums) .none kV_running_sums dc_running_sums pm_running_sums an_running_sums cd_running_sums ct_running_sums), sl_running_sums⟩) (c_running_sums : PySem.W.codeIn K cd_running_sums "running_sums" = true) (k_running_sums : PySem.W.keepIn K (.ref f_running_sums) = true)
    {f_works_by_root : Addr} {od_works_by_root an_works_by_root : Option Addr} {sl_works_by_root : Array (Option Value)} {oc_works_by_root kV_works_by_root dc_works_by_root pm_works_by_root cd_works_by_root ct_works_by_root : Value}
    (a_works_by_root : PySem.W.nsIn K mainGlobals "works_by_root" = some (some (.ref f_works_by_root))) (l_works_by_root : K.lookup f_works_by_root = some ⟨oc_works_by_root, od_works_by_root, .func (PySem.W.fnOf "works_by_root" "works_by_root" (defArgs s_works_by_root) (defBody s_works_by_root) (defScope s_works_by_root) .none kV_works_by_root dc_works_by_root pm_works_by_root an_works_by_root cd_works_by_root ct_works_by_root), sl_works_by_root⟩) (c_works_by_root : PySem.W.codeIn K cd_works_by_root "works_by_root" = true) (k_works_by_root : PySem.W.keepIn K (.ref f_works_by_root) = true)
    {f_root_cost : Addr} {od_root_cost an_root_cost : Option Addr} {sl_root_cost : Array (Option Value)} {oc_root_cost kV_root_cost dc_root_cost pm_root_cost cd_root_cost ct_root_cost : Value}
    (a_root_cost : PySem.W.nsIn K mainGlobals "root_cost" = some (some (.ref f_root_cost))) (l_root_cost : K.lookup f_root_cost = some ⟨oc_root_cost, od_root_cost, .func (PySem.W.fnOf "root_cost" "root_cost" (defArgs s_root_cost) (defBody s_root_cost) (defScope s_root_cost) .none kV_root_cost dc_root_cost pm_root_cost an_root_cost cd_root_cost ct_root_cost), sl_root_cost⟩) (c_root_cost : PySem.W.codeIn K cd_root_cost "root_cost" = true) (k_root_cost : PySem.W.keepIn K (.ref f_root_cost) = true)
    {f_schedule_in_optimum : Addr} {od_schedule_in_optimum an_schedule_in_optimum : Option Addr} {sl_schedule_in_optimum : Array (Option Value)} {oc_schedule_in_optimum kV_schedule_in_optimum dc_schedule_in_optimum pm_schedule_in_optimum cd_schedule_in_optimum ct_schedule_in_optimum : Value}
    (a_schedule_in_optimum : PySem.W.nsIn K mainGlobals "schedule_in_optimum" = some (some (.ref f_schedule_in_optimum))) (l_schedule_in_optimum : K.lookup f_schedule_in_optimum = some ⟨oc_schedule_in_optimum, od_schedule_in_optimum, .func (PySem.W.fnOf "schedule_in" "schedule_in" (defArgs s_schedule_in_optimum) (defBody s_schedule_in_optimum) (defScope s_schedule_in_optimum) .none kV_schedule_in_optimum dc_schedule_in_optimum pm_schedule_in_optimum an_schedule_in_optimum cd_schedule_in_optimum ct_schedule_in_optimum), sl_schedule_in_optimum⟩) (c_schedule_in_optimum : PySem.W.codeIn K cd_schedule_in_optimum "schedule_in" = true) (k_schedule_in_optimum : PySem.W.keepIn K (.ref f_schedule_in_optimum) = true)
    {f_least_root : Addr} {od_least_root an_least_root : Option Addr} {sl_least_root : Array (Option Value)} {oc_least_root kV_least_root dc_least_root pm_least_root cd_least_root ct_least_root : Value}
    (a_least_root : PySem.W.nsIn K mainGlobals "least_root" = some (some (.ref f_least_root))) (l_least_root : K.lookup f_least_root = some ⟨oc_least_root, od_least_root, .func (PySem.W.fnOf "least_root" "least_root" (defArgs s_least_root) (defBody s_least_root) (defScope s_least_root) .none kV_least_root dc_least_root pm_least_root an_least_root cd_least_root ct_least_root), sl_least_root⟩) (c_least_root : PySem.W.codeIn K cd_least_root "least_root" = true) (k_least_root : PySem.W.keepIn K (.ref f_least_root) = true)
    {f_joined : Addr} {od_joined an_joined : Option Addr} {sl_joined : Array (Option Value)} {oc_joined kV_joined dc_joined pm_joined cd_joined ct_joined : Value}
    (a_joined : PySem.W.nsIn K mainGlobals "joined" = some (some (.ref f_joined))) (l_joined : K.lookup f_joined = some ⟨oc_joined, od_joined, .func (PySem.W.fnOf "joined" "joined" (defArgs s_joined) (defBody s_joined) (defScope s_joined) .none kV_joined dc_joined pm_joined an_joined cd_joined ct_joined), sl_joined⟩) (c_joined : PySem.W.codeIn K cd_joined "joined" = true) (k_joined : PySem.W.keepIn K (.ref f_joined) = true)
    {f_least_work_within : Addr} {od_least_work_within an_least_work_within : Option Addr} {sl_least_work_within : Array (Option Value)} {oc_least_work_within kV_least_work_within dc_least_work_within pm_least_work_within cd_least_work_within ct_least_work_within : Value}
    (a_least_work_within : PySem.W.nsIn K mainGlobals "least_work_within" = some (some (.ref f_least_work_within))) (l_least_work_within : K.lookup f_least_work_within = some ⟨oc_least_work_within, od_least_work_within, .func (PySem.W.fnOf "least_work_within" "least_work_within" (defArgs s_least_work_within) (defBody s_least_work_within) (defScope s_least_work_within) .none kV_least_work_within dc_least_work_within pm_least_work_within an_least_work_within cd_least_work_within ct_least_work_within), sl_least_work_within⟩) (c_least_work_within : PySem.W.codeIn K cd_least_work_within "least_work_within" = true) (k_least_work_within : PySem.W.keepIn K (.ref f_least_work_within) = true)
    {f_check_arguments : Addr} {od_check_arguments an_check_arguments : Option Addr} {sl_check_arguments : Array (Option Value)} {oc_check_arguments kV_check_arguments dc_check_arguments pm_check_arguments cd_check_arguments ct_check_arguments : Value}
    (a_check_arguments : PySem.W.nsIn K mainGlobals "check_arguments" = some (some (.ref f_check_arguments))) (l_check_arguments : K.lookup f_check_arguments = some ⟨oc_check_arguments, od_check_arguments, .func (PySem.W.fnOf "check_arguments" "check_arguments" (defArgs s_check_arguments) (defBody s_check_arguments) (defScope s_check_arguments) .none kV_check_arguments dc_check_arguments pm_check_arguments an_check_arguments cd_check_arguments ct_check_arguments), sl_check_arguments⟩) (c_check_arguments : PySem.W.codeIn K cd_check_arguments "check_arguments" = true) (k_check_arguments : PySem.W.keepIn K (.ref f_check_arguments) = true)
    {f_least_tables : Addr} {od_least_tables an_least_tables : Option Addr} {sl_least_tables : Array (Option Value)} {oc_least_tables kV_least_tables dc_least_tables pm_least_tables cd_least_tables ct_least_tables : Value}
    (a_least_tables : PySem.W.nsIn K mainGlobals "least_tables" = some (some (.ref f_least_tables))) (l_least_tables : K.lookup f_least_tables = some ⟨oc_least_tables, od_least_tables, .func (PySem.W.fnOf "least_tables" "least_tables" (defArgs s_least_tables) (defBody s_least_tables) (defScope s_least_tables) .none kV_least_tables dc_least_tables pm_least_tables an_least_tables cd_least_tables ct_least_tables), sl_least_tables⟩) (c_least_tables : PySem.W.codeIn K cd_least_tables "least_tables" = true) (k_least_tables : PySem.W.keepIn K (.ref f_least_tables) = true)
    {f_rows_without_trees : Addr} {od_rows_without_trees an_rows_without_trees : Option Addr} {sl_rows_without_trees : Array (Option Value)} {oc_rows_without_trees kV_rows_without_trees dc_rows_without_trees pm_rows_without_trees cd_rows_without_trees ct_rows_without_trees : Value}
    (a_rows_without_trees : PySem.W.nsIn K mainGlobals "rows_without_trees" = some (some (.ref f_rows_without_trees))) (l_rows_without_trees : K.lookup f_rows_without_trees = some ⟨oc_rows_without_trees, od_rows_without_trees, .func (PySem.W.fnOf "rows_without_trees" "rows_without_trees" (defArgs s_rows_without_trees) (defBody s_rows_without_trees) (defScope s_rows_without_trees) .none kV_rows_without_trees dc_rows_without_trees pm_rows_without_trees an_rows_without_trees cd_rows_without_trees ct_rows_without_trees), sl_rows_without_trees⟩) (c_rows_without_trees : PySem.W.codeIn K cd_rows_without_trees "rows_without_trees" = true) (k_rows_without_trees : PySem.W.keepIn K (.ref f_rows_without_trees) = true)
    {f_rows_over : Addr} {od_rows_over an_rows_over : Option Addr} {sl_rows_over : Array (Option Value)} {oc_rows_over kV_rows_over dc_rows_over pm_rows_over cd_rows_over ct_rows_over : Value}
    (a_rows_over : PySem.W.nsIn K mainGlobals "rows_over" = some (some (.ref f_rows_over))) (l_rows_over : K.lookup f_rows_over = some ⟨oc_rows_over, od_rows_over, .func (PySem.W.fnOf "rows_over" "rows_over" (defArgs s_rows_over) (defBody s_rows_over) (defScope s_rows_over) .none kV_rows_over dc_rows_over pm_rows_over an_rows_over cd_rows_over ct_rows_over), sl_rows_over⟩) (c_rows_over : PySem.W.codeIn K cd_rows_over "rows_over" = true) (k_rows_over : PySem.W.keepIn K (.ref f_rows_over) = true)
    {f_schedule_in_bounded : Addr} {od_schedule_in_bounded an_schedule_in_bounded : Option Addr} {sl_schedule_in_bounded : Array (Option Value)} {oc_schedule_in_bounded kV_schedule_in_bounded dc_schedule_in_bounded pm_schedule_in_bounded cd_schedule_in_bounded ct_schedule_in_bounded : Value}
    (a_schedule_in_bounded : PySem.W.nsIn K mainGlobals "schedule_in_bounded" = some (some (.ref f_schedule_in_bounded))) (l_schedule_in_bounded : K.lookup f_schedule_in_bounded = some ⟨oc_schedule_in_bounded, od_schedule_in_bounded, .func (PySem.W.fnOf "schedule_in" "schedule_in" (defArgs s_schedule_in_bounded) (defBody s_schedule_in_bounded) (defScope s_schedule_in_bounded) .none kV_schedule_in_bounded dc_schedule_in_bounded pm_schedule_in_bounded an_schedule_in_bounded cd_schedule_in_bounded ct_schedule_in_bounded), sl_schedule_in_bounded⟩) (c_schedule_in_bounded : PySem.W.codeIn K cd_schedule_in_bounded "schedule_in" = true) (k_schedule_in_bounded : PySem.W.keepIn K (.ref f_schedule_in_bounded) = true)
    {f_write_work : Addr} {od_write_work an_write_work : Option Addr} {sl_write_work : Array (Option Value)} {oc_write_work kV_write_work dc_write_work pm_write_work cd_write_work ct_write_work : Value}
    (a_write_work : PySem.W.nsIn K mainGlobals "write_work" = some (some (.ref f_write_work))) (l_write_work : K.lookup f_write_work = some ⟨oc_write_work, od_write_work, .func (PySem.W.fnOf "write_work" "write_work" (defArgs s_write_work) (defBody s_write_work) (defScope s_write_work) .none kV_write_work dc_write_work pm_write_work an_write_work cd_write_work ct_write_work), sl_write_work⟩) (c_write_work : PySem.W.codeIn K cd_write_work "write_work" = true) (k_write_work : PySem.W.keepIn K (.ref f_write_work) = true)
    {f_weighted : Addr} {od_weighted an_weighted : Option Addr} {sl_weighted : Array (Option Value)} {oc_weighted kV_weighted dc_weighted pm_weighted cd_weighted ct_weighted : Value}
    (a_weighted : PySem.W.nsIn K mainGlobals "weighted" = some (some (.ref f_weighted))) (l_weighted : K.lookup f_weighted = some ⟨oc_weighted, od_weighted, .func (PySem.W.fnOf "weighted" "weighted" (defArgs s_weighted) (defBody s_weighted) (defScope s_weighted) .none kV_weighted dc_weighted pm_weighted an_weighted cd_weighted ct_weighted), sl_weighted⟩) (c_weighted : PySem.W.codeIn K cd_weighted "weighted" = true) (k_weighted : PySem.W.keepIn K (.ref f_weighted) = true)
    {f_read_work : Addr} {od_read_work an_read_work : Option Addr} {sl_read_work : Array (Option Value)} {oc_read_work kV_read_work dc_read_work pm_read_work cd_read_work ct_read_work : Value}
    (a_read_work : PySem.W.nsIn K mainGlobals "read_work" = some (some (.ref f_read_work))) (l_read_work : K.lookup f_read_work = some ⟨oc_read_work, od_read_work, .func (PySem.W.fnOf "read_work" "read_work" (defArgs s_read_work) (defBody s_read_work) (defScope s_read_work) .none kV_read_work dc_read_work pm_read_work an_read_work cd_read_work ct_read_work), sl_read_work⟩) (c_read_work : PySem.W.codeIn K cd_read_work "read_work" = true) (k_read_work : PySem.W.keepIn K (.ref f_read_work) = true)
    {f_work : Addr} {od_work an_work : Option Addr} {sl_work : Array (Option Value)} {oc_work kV_work dc_work pm_work cd_work ct_work : Value}
    (a_work : PySem.W.nsIn K mainGlobals "work" = some (some (.ref f_work))) (l_work : K.lookup f_work = some ⟨oc_work, od_work, .func (PySem.W.fnOf "work" "work" (defArgs s_work) (defBody s_work) (defScope s_work) .none kV_work dc_work pm_work an_work cd_work ct_work), sl_work⟩) (c_work : PySem.W.codeIn K cd_work "work" = true) (k_work : PySem.W.keepIn K (.ref f_work) = true)
    {f_corners : Addr} {od_corners an_corners : Option Addr} {sl_corners : Array (Option Value)} {oc_corners kV_corners dc_corners pm_corners cd_corners ct_corners : Value}
    (a_corners : PySem.W.nsIn K mainGlobals "corners" = some (some (.ref f_corners))) (l_corners : K.lookup f_corners = some ⟨oc_corners, od_corners, .func (PySem.W.fnOf "corners" "corners" (defArgs s_corners) (defBody s_corners) (defScope s_corners) .none kV_corners dc_corners pm_corners an_corners cd_corners ct_corners), sl_corners⟩) (c_corners : PySem.W.codeIn K cd_corners "corners" = true) (k_corners : PySem.W.keepIn K (.ref f_corners) = true)
    {f_corners_with_schedules : Addr} {od_corners_with_schedules an_corners_with_schedules : Option Addr} {sl_corners_with_schedules : Array (Option Value)} {oc_corners_with_schedules kV_corners_with_schedules dc_corners_with_schedules pm_corners_with_schedules cd_corners_with_schedules ct_corners_with_schedules : Value}
    (a_corners_with_schedules : PySem.W.nsIn K mainGlobals "corners_with_schedules" = some (some (.ref f_corners_with_schedules))) (l_corners_with_schedules : K.lookup f_corners_with_schedules = some ⟨oc_corners_with_schedules, od_corners_with_schedules, .func (PySem.W.fnOf "corners_with_schedules" "corners_with_schedules" (defArgs s_corners_with_schedules) (defBody s_corners_with_schedules) (defScope s_corners_with_schedules) .none kV_corners_with_schedules dc_corners_with_schedules pm_corners_with_schedules an_corners_with_schedules cd_corners_with_schedules ct_corners_with_schedules), sl_corners_with_schedules⟩) (c_corners_with_schedules : PySem.W.codeIn K cd_corners_with_schedules "corners_with_schedules" = true) (k_corners_with_schedules : PySem.W.keepIn K (.ref f_corners_with_schedules) = true)
    {f_first_direction : Addr} {od_first_direction an_first_direction : Option Addr} {sl_first_direction : Array (Option Value)} {oc_first_direction kV_first_direction dc_first_direction pm_first_direction cd_first_direction ct_first_direction : Value}
    (a_first_direction : PySem.W.nsIn K mainGlobals "first_direction" = some (some (.ref f_first_direction))) (l_first_direction : K.lookup f_first_direction = some ⟨oc_first_direction, od_first_direction, .func (PySem.W.fnOf "first_direction" "first_direction" (defArgs s_first_direction) (defBody s_first_direction) (defScope s_first_direction) .none kV_first_direction dc_first_direction pm_first_direction an_first_direction cd_first_direction ct_first_direction), sl_first_direction⟩) (c_first_direction : PySem.W.codeIn K cd_first_direction "first_direction" = true) (k_first_direction : PySem.W.keepIn K (.ref f_first_direction) = true)
    {f_last_direction : Addr} {od_last_direction an_last_direction : Option Addr} {sl_last_direction : Array (Option Value)} {oc_last_direction kV_last_direction dc_last_direction pm_last_direction cd_last_direction ct_last_direction : Value}
    (a_last_direction : PySem.W.nsIn K mainGlobals "last_direction" = some (some (.ref f_last_direction))) (l_last_direction : K.lookup f_last_direction = some ⟨oc_last_direction, od_last_direction, .func (PySem.W.fnOf "last_direction" "last_direction" (defArgs s_last_direction) (defBody s_last_direction) (defScope s_last_direction) .none kV_last_direction dc_last_direction pm_last_direction an_last_direction cd_last_direction ct_last_direction), sl_last_direction⟩) (c_last_direction : PySem.W.codeIn K cd_last_direction "last_direction" = true) (k_last_direction : PySem.W.keepIn K (.ref f_last_direction) = true)
    {f_direction_between : Addr} {od_direction_between an_direction_between : Option Addr} {sl_direction_between : Array (Option Value)} {oc_direction_between kV_direction_between dc_direction_between pm_direction_between cd_direction_between ct_direction_between : Value}
    (a_direction_between : PySem.W.nsIn K mainGlobals "direction_between" = some (some (.ref f_direction_between))) (l_direction_between : K.lookup f_direction_between = some ⟨oc_direction_between, od_direction_between, .func (PySem.W.fnOf "direction_between" "direction_between" (defArgs s_direction_between) (defBody s_direction_between) (defScope s_direction_between) .none kV_direction_between dc_direction_between pm_direction_between an_direction_between cd_direction_between ct_direction_between), sl_direction_between⟩) (c_direction_between : PySem.W.codeIn K cd_direction_between "direction_between" = true) (k_direction_between : PySem.W.keepIn K (.ref f_direction_between) = true)
    {f_tilted : Addr} {od_tilted an_tilted : Option Addr} {sl_tilted : Array (Option Value)} {oc_tilted kV_tilted dc_tilted pm_tilted cd_tilted ct_tilted : Value}
    (a_tilted : PySem.W.nsIn K mainGlobals "tilted" = some (some (.ref f_tilted))) (l_tilted : K.lookup f_tilted = some ⟨oc_tilted, od_tilted, .func (PySem.W.fnOf "tilted" "tilted" (defArgs s_tilted) (defBody s_tilted) (defScope s_tilted) .none kV_tilted dc_tilted pm_tilted an_tilted cd_tilted ct_tilted), sl_tilted⟩) (c_tilted : PySem.W.codeIn K cd_tilted "tilted" = true) (k_tilted : PySem.W.keepIn K (.ref f_tilted) = true)
    {f_best_at : Addr} {od_best_at an_best_at : Option Addr} {sl_best_at : Array (Option Value)} {oc_best_at kV_best_at dc_best_at pm_best_at cd_best_at ct_best_at : Value}
    (a_best_at : PySem.W.nsIn K mainGlobals "best_at" = some (some (.ref f_best_at))) (l_best_at : K.lookup f_best_at = some ⟨oc_best_at, od_best_at, .func (PySem.W.fnOf "best_at" "best_at" (defArgs s_best_at) (defBody s_best_at) (defScope s_best_at) .none kV_best_at dc_best_at pm_best_at an_best_at cd_best_at ct_best_at), sl_best_at⟩) (c_best_at : PySem.W.codeIn K cd_best_at "best_at" = true) (k_best_at : PySem.W.keepIn K (.ref f_best_at) = true)
    {f_scaled : Addr} {od_scaled an_scaled : Option Addr} {sl_scaled : Array (Option Value)} {oc_scaled kV_scaled dc_scaled pm_scaled cd_scaled ct_scaled : Value}
    (a_scaled : PySem.W.nsIn K mainGlobals "scaled" = some (some (.ref f_scaled))) (l_scaled : K.lookup f_scaled = some ⟨oc_scaled, od_scaled, .func (PySem.W.fnOf "scaled" "scaled" (defArgs s_scaled) (defBody s_scaled) (defScope s_scaled) .none kV_scaled dc_scaled pm_scaled an_scaled cd_scaled ct_scaled), sl_scaled⟩) (c_scaled : PySem.W.codeIn K cd_scaled "scaled" = true) (k_scaled : PySem.W.keepIn K (.ref f_scaled) = true)
    {f_point_of : Addr} {od_point_of an_point_of : Option Addr} {sl_point_of : Array (Option Value)} {oc_point_of kV_point_of dc_point_of pm_point_of cd_point_of ct_point_of : Value}
    (a_point_of : PySem.W.nsIn K mainGlobals "point_of" = some (some (.ref f_point_of))) (l_point_of : K.lookup f_point_of = some ⟨oc_point_of, od_point_of, .func (PySem.W.fnOf "point_of" "point_of" (defArgs s_point_of) (defBody s_point_of) (defScope s_point_of) .none kV_point_of dc_point_of pm_point_of an_point_of cd_point_of ct_point_of), sl_point_of⟩) (c_point_of : PySem.W.codeIn K cd_point_of "point_of" = true) (k_point_of : PySem.W.keepIn K (.ref f_point_of) = true)
    {f_is_tree : Addr} {od_is_tree an_is_tree : Option Addr} {sl_is_tree : Array (Option Value)} {oc_is_tree kV_is_tree dc_is_tree pm_is_tree cd_is_tree ct_is_tree : Value}
    (a_is_tree : PySem.W.nsIn K mainGlobals "is_tree" = some (some (.ref f_is_tree))) (l_is_tree : K.lookup f_is_tree = some ⟨oc_is_tree, od_is_tree, .func (PySem.W.fnOf "is_tree" "is_tree" (defArgs s_is_tree) (defBody s_is_tree) (defScope s_is_tree) .none kV_is_tree dc_is_tree pm_is_tree an_is_tree cd_is_tree ct_is_tree), sl_is_tree⟩) (c_is_tree : PySem.W.codeIn K cd_is_tree "is_tree" = true) (k_is_tree : PySem.W.keepIn K (.ref f_is_tree) = true)
    {f_is_numbered_in_order : Addr} {od_is_numbered_in_order an_is_numbered_in_order : Option Addr} {sl_is_numbered_in_order : Array (Option Value)} {oc_is_numbered_in_order kV_is_numbered_in_order dc_is_numbered_in_order pm_is_numbered_in_order cd_is_numbered_in_order ct_is_numbered_in_order : Value}
    (a_is_numbered_in_order : PySem.W.nsIn K mainGlobals "is_numbered_in_order" = some (some (.ref f_is_numbered_in_order))) (l_is_numbered_in_order : K.lookup f_is_numbered_in_order = some ⟨oc_is_numbered_in_order, od_is_numbered_in_order, .func (PySem.W.fnOf "is_numbered_in_order" "is_numbered_in_order" (defArgs s_is_numbered_in_order) (defBody s_is_numbered_in_order) (defScope s_is_numbered_in_order) .none kV_is_numbered_in_order dc_is_numbered_in_order pm_is_numbered_in_order an_is_numbered_in_order cd_is_numbered_in_order ct_is_numbered_in_order), sl_is_numbered_in_order⟩) (c_is_numbered_in_order : PySem.W.codeIn K cd_is_numbered_in_order "is_numbered_in_order" = true) (k_is_numbered_in_order : PySem.W.keepIn K (.ref f_is_numbered_in_order) = true)
    {f_tree_of : Addr} {od_tree_of an_tree_of : Option Addr} {sl_tree_of : Array (Option Value)} {oc_tree_of kV_tree_of dc_tree_of pm_tree_of cd_tree_of ct_tree_of : Value}
    (a_tree_of : PySem.W.nsIn K mainGlobals "tree_of" = some (some (.ref f_tree_of))) (l_tree_of : K.lookup f_tree_of = some ⟨oc_tree_of, od_tree_of, .func (PySem.W.fnOf "tree_of" "tree_of" (defArgs s_tree_of) (defBody s_tree_of) (defScope s_tree_of) .none kV_tree_of dc_tree_of pm_tree_of an_tree_of cd_tree_of ct_tree_of), sl_tree_of⟩) (c_tree_of : PySem.W.codeIn K cd_tree_of "tree_of" = true) (k_tree_of : PySem.W.keepIn K (.ref f_tree_of) = true)
    {f_schedule_of : Addr} {od_schedule_of an_schedule_of : Option Addr} {sl_schedule_of : Array (Option Value)} {oc_schedule_of kV_schedule_of dc_schedule_of pm_schedule_of cd_schedule_of ct_schedule_of : Value}
    (a_schedule_of : PySem.W.nsIn K mainGlobals "schedule_of" = some (some (.ref f_schedule_of))) (l_schedule_of : K.lookup f_schedule_of = some ⟨oc_schedule_of, od_schedule_of, .func (PySem.W.fnOf "schedule_of" "schedule_of" (defArgs s_schedule_of) (defBody s_schedule_of) (defScope s_schedule_of) .none kV_schedule_of dc_schedule_of pm_schedule_of an_schedule_of cd_schedule_of ct_schedule_of), sl_schedule_of⟩) (c_schedule_of : PySem.W.codeIn K cd_schedule_of "schedule_of" = true) (k_schedule_of : PySem.W.keepIn K (.ref f_schedule_of) = true)
    {f_edges : Addr} {od_edges an_edges : Option Addr} {sl_edges : Array (Option Value)} {oc_edges kV_edges dc_edges pm_edges cd_edges ct_edges : Value}
    (a_edges : PySem.W.nsIn K mainGlobals "edges" = some (some (.ref f_edges))) (l_edges : K.lookup f_edges = some ⟨oc_edges, od_edges, .func (PySem.W.fnOf "edges" "edges" (defArgs s_edges) (defBody s_edges) (defScope s_edges) .none kV_edges dc_edges pm_edges an_edges cd_edges ct_edges), sl_edges⟩) (c_edges : PySem.W.codeIn K cd_edges "edges" = true) (k_edges : PySem.W.keepIn K (.ref f_edges) = true)
    {f_edges_above : Addr} {od_edges_above an_edges_above : Option Addr} {sl_edges_above : Array (Option Value)} {oc_edges_above kV_edges_above dc_edges_above pm_edges_above cd_edges_above ct_edges_above : Value}
    (a_edges_above : PySem.W.nsIn K mainGlobals "edges_above" = some (some (.ref f_edges_above))) (l_edges_above : K.lookup f_edges_above = some ⟨oc_edges_above, od_edges_above, .func (PySem.W.fnOf "edges_above" "edges_above" (defArgs s_edges_above) (defBody s_edges_above) (defScope s_edges_above) .none kV_edges_above dc_edges_above pm_edges_above an_edges_above cd_edges_above ct_edges_above), sl_edges_above⟩) (c_edges_above : PySem.W.codeIn K cd_edges_above "edges_above" = true) (k_edges_above : PySem.W.keepIn K (.ref f_edges_above) = true)
    {f_mirror : Addr} {od_mirror an_mirror : Option Addr} {sl_mirror : Array (Option Value)} {oc_mirror kV_mirror dc_mirror pm_mirror cd_mirror ct_mirror : Value}
    (a_mirror : PySem.W.nsIn K mainGlobals "mirror" = some (some (.ref f_mirror))) (l_mirror : K.lookup f_mirror = some ⟨oc_mirror, od_mirror, .func (PySem.W.fnOf "mirror" "mirror" (defArgs s_mirror) (defBody s_mirror) (defScope s_mirror) .none kV_mirror dc_mirror pm_mirror an_mirror cd_mirror ct_mirror), sl_mirror⟩) (c_mirror : PySem.W.codeIn K cd_mirror "mirror" = true) (k_mirror : PySem.W.keepIn K (.ref f_mirror) = true)
    {f_mirrored_node : Addr} {od_mirrored_node an_mirrored_node : Option Addr} {sl_mirrored_node : Array (Option Value)} {oc_mirrored_node kV_mirrored_node dc_mirrored_node pm_mirrored_node cd_mirrored_node ct_mirrored_node : Value}
    (a_mirrored_node : PySem.W.nsIn K mainGlobals "mirrored_node" = some (some (.ref f_mirrored_node))) (l_mirrored_node : K.lookup f_mirrored_node = some ⟨oc_mirrored_node, od_mirrored_node, .func (PySem.W.fnOf "mirrored_node" "mirrored_node" (defArgs s_mirrored_node) (defBody s_mirrored_node) (defScope s_mirrored_node) .none kV_mirrored_node dc_mirrored_node pm_mirrored_node an_mirrored_node cd_mirrored_node ct_mirrored_node), sl_mirrored_node⟩) (c_mirrored_node : PySem.W.codeIn K cd_mirrored_node "mirrored_node" = true) (k_mirrored_node : PySem.W.keepIn K (.ref f_mirrored_node) = true)
    {f_L_pot : Addr} {od_L_pot an_L_pot : Option Addr} {sl_L_pot : Array (Option Value)} {oc_L_pot kV_L_pot dc_L_pot pm_L_pot cd_L_pot ct_L_pot : Value}
    (a_L_pot : PySem.W.nsIn K mainGlobals "_law_pot" = some (some (.ref f_L_pot))) (l_L_pot : K.lookup f_L_pot = some ⟨oc_L_pot, od_L_pot, .func (PySem.W.fnOf "_law_pot" "_law_pot" (defArgs s_L_pot) (defBody s_L_pot) (defScope s_L_pot) .none kV_L_pot dc_L_pot pm_L_pot an_L_pot cd_L_pot ct_L_pot), sl_L_pot⟩) (c_L_pot : PySem.W.codeIn K cd_L_pot "_law_pot" = true) (k_L_pot : PySem.W.keepIn K (.ref f_L_pot) = true)
    {f_L_take : Addr} {od_L_take an_L_take : Option Addr} {sl_L_take : Array (Option Value)} {oc_L_take kV_L_take dc_L_take pm_L_take cd_L_take ct_L_take : Value}
    (a_L_take : PySem.W.nsIn K mainGlobals "_law_take" = some (some (.ref f_L_take))) (l_L_take : K.lookup f_L_take = some ⟨oc_L_take, od_L_take, .func (PySem.W.fnOf "_law_take" "_law_take" (defArgs s_L_take) (defBody s_L_take) (defScope s_L_take) .none kV_L_take dc_L_take pm_L_take an_L_take cd_L_take ct_L_take), sl_L_take⟩) (c_L_take : PySem.W.codeIn K cd_L_take "_law_take" = true) (k_L_take : PySem.W.keepIn K (.ref f_L_take) = true)
    {f_L_of : Addr} {od_L_of an_L_of : Option Addr} {sl_L_of : Array (Option Value)} {oc_L_of kV_L_of dc_L_of pm_L_of cd_L_of ct_L_of : Value}
    (a_L_of : PySem.W.nsIn K mainGlobals "_law_of" = some (some (.ref f_L_of))) (l_L_of : K.lookup f_L_of = some ⟨oc_L_of, od_L_of, .func (PySem.W.fnOf "_law_of" "_law_of" (defArgs s_L_of) (defBody s_L_of) (defScope s_L_of) .none kV_L_of dc_L_of pm_L_of an_L_of cd_L_of ct_L_of), sl_L_of⟩) (c_L_of : PySem.W.codeIn K cd_L_of "_law_of" = true) (k_L_of : PySem.W.keepIn K (.ref f_L_of) = true)
    {f_L_counted : Addr} {od_L_counted an_L_counted : Option Addr} {sl_L_counted : Array (Option Value)} {oc_L_counted kV_L_counted dc_L_counted pm_L_counted cd_L_counted ct_L_counted : Value}
    (a_L_counted : PySem.W.nsIn K mainGlobals "_law_counted" = some (some (.ref f_L_counted))) (l_L_counted : K.lookup f_L_counted = some ⟨oc_L_counted, od_L_counted, .func (PySem.W.fnOf "_law_counted" "_law_counted" (defArgs s_L_counted) (defBody s_L_counted) (defScope s_L_counted) .none kV_L_counted dc_L_counted pm_L_counted an_L_counted cd_L_counted ct_L_counted), sl_L_counted⟩) (c_L_counted : PySem.W.codeIn K cd_L_counted "_law_counted" = true) (k_L_counted : PySem.W.keepIn K (.ref f_L_counted) = true)
    {f_L_load : Addr} {od_L_load an_L_load : Option Addr} {sl_L_load : Array (Option Value)} {oc_L_load kV_L_load dc_L_load pm_L_load cd_L_load ct_L_load : Value}
    (a_L_load : PySem.W.nsIn K mainGlobals "_law_load" = some (some (.ref f_L_load))) (l_L_load : K.lookup f_L_load = some ⟨oc_L_load, od_L_load, .func (PySem.W.fnOf "_law_load" "_law_load" (defArgs s_L_load) (defBody s_L_load) (defScope s_L_load) .none kV_L_load dc_L_load pm_L_load an_L_load cd_L_load ct_L_load), sl_L_load⟩) (c_L_load : PySem.W.codeIn K cd_L_load "_law_load" = true) (k_L_load : PySem.W.keepIn K (.ref f_L_load) = true)
    {f_L_within : Addr} {od_L_within an_L_within : Option Addr} {sl_L_within : Array (Option Value)} {oc_L_within kV_L_within dc_L_within pm_L_within cd_L_within ct_L_within : Value}
    (a_L_within : PySem.W.nsIn K mainGlobals "_law_within" = some (some (.ref f_L_within))) (l_L_within : K.lookup f_L_within = some ⟨oc_L_within, od_L_within, .func (PySem.W.fnOf "_law_within" "_law_within" (defArgs s_L_within) (defBody s_L_within) (defScope s_L_within) .none kV_L_within dc_L_within pm_L_within an_L_within cd_L_within ct_L_within), sl_L_within⟩) (c_L_within : PySem.W.codeIn K cd_L_within "_law_within" = true) (k_L_within : PySem.W.keepIn K (.ref f_L_within) = true)
    {f_L_mirrored_right : Addr} {od_L_mirrored_right an_L_mirrored_right : Option Addr} {sl_L_mirrored_right : Array (Option Value)} {oc_L_mirrored_right kV_L_mirrored_right dc_L_mirrored_right pm_L_mirrored_right cd_L_mirrored_right ct_L_mirrored_right : Value}
    (a_L_mirrored_right : PySem.W.nsIn K mainGlobals "_law_mirrored_right" = some (some (.ref f_L_mirrored_right))) (l_L_mirrored_right : K.lookup f_L_mirrored_right = some ⟨oc_L_mirrored_right, od_L_mirrored_right, .func (PySem.W.fnOf "_law_mirrored_right" "_law_mirrored_right" (defArgs s_L_mirrored_right) (defBody s_L_mirrored_right) (defScope s_L_mirrored_right) .none kV_L_mirrored_right dc_L_mirrored_right pm_L_mirrored_right an_L_mirrored_right cd_L_mirrored_right ct_L_mirrored_right), sl_L_mirrored_right⟩) (c_L_mirrored_right : PySem.W.codeIn K cd_L_mirrored_right "_law_mirrored_right" = true) (k_L_mirrored_right : PySem.W.keepIn K (.ref f_L_mirrored_right) = true)
    {f_L_right : Addr} {od_L_right an_L_right : Option Addr} {sl_L_right : Array (Option Value)} {oc_L_right kV_L_right dc_L_right pm_L_right cd_L_right ct_L_right : Value}
    (a_L_right : PySem.W.nsIn K mainGlobals "_law_right" = some (some (.ref f_L_right))) (l_L_right : K.lookup f_L_right = some ⟨oc_L_right, od_L_right, .func (PySem.W.fnOf "_law_right" "_law_right" (defArgs s_L_right) (defBody s_L_right) (defScope s_L_right) .none kV_L_right dc_L_right pm_L_right an_L_right cd_L_right ct_L_right), sl_L_right⟩) (c_L_right : PySem.W.codeIn K cd_L_right "_law_right" = true) (k_L_right : PySem.W.keepIn K (.ref f_L_right) = true)
    {f_law : Addr} {od_law an_law : Option Addr} {sl_law : Array (Option Value)} {oc_law kV_law dc_law pm_law cd_law ct_law : Value}
    (a_law : PySem.W.nsIn K mainGlobals "law" = some (some (.ref f_law))) (l_law : K.lookup f_law = some ⟨oc_law, od_law, .func (PySem.W.fnOf "law" "law" (defArgs s_law) (defBody s_law) (defScope s_law) .none kV_law dc_law pm_law an_law cd_law ct_law), sl_law⟩) (c_law : PySem.W.codeIn K cd_law "law" = true) (k_law : PySem.W.keepIn K (.ref f_law) = true)
    (z_isinstance : PySem.W.nsIn K mainGlobals "isinstance" = some none)
    (z_int : PySem.W.nsIn K mainGlobals "int" = some none)
    (z_bool : PySem.W.nsIn K mainGlobals "bool" = some none)
    (z_all : PySem.W.nsIn K mainGlobals "all" = some none)
    (z_tuple : PySem.W.nsIn K mainGlobals "tuple" = some none)
    (z_len : PySem.W.nsIn K mainGlobals "len" = some none)
    (z_enumerate : PySem.W.nsIn K mainGlobals "enumerate" = some none)
    (z_range : PySem.W.nsIn K mainGlobals "range" = some none)
    (z_sum : PySem.W.nsIn K mainGlobals "sum" = some none)
    (z_reversed : PySem.W.nsIn K mainGlobals "reversed" = some none)
    (z_min : PySem.W.nsIn K mainGlobals "min" = some none)
    (z_zip : PySem.W.nsIn K mainGlobals "zip" = some none)
    (z_max : PySem.W.nsIn K mainGlobals "max" = some none)
    (z_abs : PySem.W.nsIn K mainGlobals "abs" = some none)
    {t_MOST_LOAD : Tok} (y_MOST_LOAD : PySem.W.nsIn K mainGlobals "MOST_LOAD" = some (some (.int (1000000000) t_MOST_LOAD)))
    {t_MOST_FLUSHES : Tok} (y_MOST_FLUSHES : PySem.W.nsIn K mainGlobals "MOST_FLUSHES" = some (some (.int (60) t_MOST_FLUSHES)))
    {t_MOST_BOUNDED_FLUSHES : Tok} (y_MOST_BOUNDED_FLUSHES : PySem.W.nsIn K mainGlobals "MOST_BOUNDED_FLUSHES" = some (some (.int (14) t_MOST_BOUNDED_FLUSHES)))
    {t_MOST_BOUNDED_BUDGET : Tok} (y_MOST_BOUNDED_BUDGET : PySem.W.nsIn K mainGlobals "MOST_BOUNDED_BUDGET" = some (some (.int (8) t_MOST_BOUNDED_BUDGET)))
    {t_MOST_PRICED_FLUSHES : Tok} (y_MOST_PRICED_FLUSHES : PySem.W.nsIn K mainGlobals "MOST_PRICED_FLUSHES" = some (some (.int (24) t_MOST_PRICED_FLUSHES)))
    {t_NO_PARENT : Tok} (y_NO_PARENT : PySem.W.nsIn K mainGlobals "NO_PARENT" = some (some (.int (-1) t_NO_PARENT)))
    : ∃ fd : FuncData, (∀ (s : Shared) (v : Value), BindsTo s fd ⟨[v], []⟩ [("_law_script", v)]) ∧ ∀ base : Heap, K.In base → base.Ns mainGlobals mg → FnOk l.prog w K mg base CX0 70 fa fd ["_law_script"] (sp_law K) := by
  have e := hfa.symm.trans (PySem.W.mg_of X G a_law)
  cases e
  have F_is_int := fun_mk (st := s_is_int) l_is_int c_is_int k_is_int
  have B_is_int := F_is_int.binds (ps := ["value"]) fun _ _ _ _ _ _ us hl => match us, hl with | [_], _ => rfl
  have F_is_count := fun_mk (st := s_is_count) l_is_count c_is_count k_is_count
  have B_is_count := F_is_count.binds (ps := ["value"]) fun _ _ _ _ _ _ us hl => match us, hl with | [_], _ => rfl
  have F_is_count_up_to := fun_mk (st := s_is_count_up_to) l_is_count_up_to c_is_count_up_to k_is_count_up_to
  have B_is_count_up_to := F_is_count_up_to.binds (ps := ["value", "most"]) fun _ _ _ _ _ _ us hl => match us, hl with | [_, _], _ => rfl
  have F_check_budgets := fun_mk (st := s_check_budgets) l_check_budgets c_check_budgets k_check_budgets
  have B_check_budgets := F_check_budgets.binds (ps := ["k", "c", "most"]) fun _ _ _ _ _ _ us hl => match us, hl with | [_, _, _], _ => rfl
  have F_are_loads := fun_mk (st := s_are_loads) l_are_loads c_are_loads k_are_loads
  have B_are_loads := F_are_loads.binds (ps := ["value", "fewest", "most"]) fun _ _ _ _ _ _ us hl => match us, hl with | [_, _, _], _ => rfl
  have F_check_sizes := fun_mk (st := s_check_sizes) l_check_sizes c_check_sizes k_check_sizes
  have B_check_sizes := F_check_sizes.binds (ps := ["sizes", "fewest", "most"]) fun _ _ _ _ _ _ us hl => match us, hl with | [_, _, _], _ => rfl
  have F_check_reads := fun_mk (st := s_check_reads) l_check_reads c_check_reads k_check_reads
  have B_check_reads := F_check_reads.binds (ps := ["reads", "flushes"]) fun _ _ _ _ _ _ us hl => match us, hl with | [_, _], _ => rfl
  have F_check_loads := fun_mk (st := s_check_loads) l_check_loads c_check_loads k_check_loads
  have B_check_loads := F_check_loads.binds (ps := ["sizes", "reads", "most"]) fun _ _ _ _ _ _ us hl => match us, hl with | [_, _, _], _ => rfl
  have F_is_schedule := fun_mk (st := s_is_schedule) l_is_schedule c_is_schedule k_is_schedule
  have B_is_schedule := F_is_schedule.binds (ps := ["value"]) fun _ _ _ _ _ _ us hl => match us, hl with | [_], _ => rfl
  have F_stacks := fun_mk (st := s_stacks) l_stacks c_stacks k_stacks
  have B_stacks := F_stacks.binds (ps := ["schedule"]) fun _ _ _ _ _ _ us hl => match us, hl with | [_], _ => rfl
  have F_stack_after := fun_mk (st := s_stack_after) l_stack_after c_stack_after k_stack_after
  have B_stack_after := F_stack_after.binds (ps := ["stack", "flush", "merge"]) fun _ _ _ _ _ _ us hl => match us, hl with | [_, _, _], _ => rfl
  have F_writes := fun_mk (st := s_writes) l_writes c_writes k_writes
  have B_writes := F_writes.binds (ps := ["schedule"]) fun _ _ _ _ _ _ us hl => match us, hl with | [_], _ => rfl
  have F_run_counts := fun_mk (st := s_run_counts) l_run_counts c_run_counts k_run_counts
  have B_run_counts := F_run_counts.binds (ps := ["schedule"]) fun _ _ _ _ _ _ us hl => match us, hl with | [_], _ => rfl
  have F_runs_at_end := fun_mk (st := s_runs_at_end) l_runs_at_end c_runs_at_end k_runs_at_end
  have B_runs_at_end := F_runs_at_end.binds (ps := ["schedule"]) fun _ _ _ _ _ _ us hl => match us, hl with | [_], _ => rfl
  have F_least_work := fun_mk (st := s_least_work) l_least_work c_least_work k_least_work
  have B_least_work := F_least_work.binds (ps := ["sizes", "reads"]) fun _ _ _ _ _ _ us hl => match us, hl with | [_, _], _ => rfl
  have F_least_of := fun_mk (st := s_least_of) l_least_of c_least_of k_least_of
  have B_least_of := F_least_of.binds (ps := ["sizes", "reads"]) fun _ _ _ _ _ _ us hl => match us, hl with | [_, _], _ => rfl
  have F_least_rows := fun_mk (st := s_least_rows) l_least_rows c_least_rows k_least_rows
  have B_least_rows := F_least_rows.binds (ps := ["sizes", "reads"]) fun _ _ _ _ _ _ us hl => match us, hl with | [_, _], _ => rfl
  have F_load_sums := fun_mk (st := s_load_sums) l_load_sums c_load_sums k_load_sums
  have B_load_sums := F_load_sums.binds (ps := ["sizes", "reads"]) fun _ _ _ _ _ _ us hl => match us, hl with | [_, _], _ => rfl
  have F_running_sums := fun_mk (st := s_running_sums) l_running_sums c_running_sums k_running_sums
  have B_running_sums := F_running_sums.binds (ps := ["loads"]) fun _ _ _ _ _ _ us hl => match us, hl with | [_], _ => rfl
  have F_works_by_root := fun_mk (st := s_works_by_root) l_works_by_root c_works_by_root k_works_by_root
  have B_works_by_root := F_works_by_root.binds (ps := ["lefts", "rights", "sums", "start", "stop"]) fun _ _ _ _ _ _ us hl => match us, hl with | [_, _, _, _, _], _ => rfl
  have F_root_cost := fun_mk (st := s_root_cost) l_root_cost c_root_cost k_root_cost
  have B_root_cost := F_root_cost.binds (ps := ["sums", "start", "stop", "root"]) fun _ _ _ _ _ _ us hl => match us, hl with | [_, _, _, _], _ => rfl
  have F_schedule_in_optimum := fun_mk (st := s_schedule_in_optimum) l_schedule_in_optimum c_schedule_in_optimum k_schedule_in_optimum
  have B_schedule_in_optimum := F_schedule_in_optimum.binds (ps := ["rows", "sums", "start", "stop"]) fun _ _ _ _ _ _ us hl => match us, hl with | [_, _, _, _], _ => rfl
  have F_least_root := fun_mk (st := s_least_root) l_least_root c_least_root k_least_root
  have B_least_root := F_least_root.binds (ps := ["lefts", "rights", "sums", "start", "stop"]) fun _ _ _ _ _ _ us hl => match us, hl with | [_, _, _, _, _], _ => rfl
  have F_joined := fun_mk (st := s_joined) l_joined c_joined k_joined
  have B_joined := F_joined.binds (ps := ["left", "right"]) fun _ _ _ _ _ _ us hl => match us, hl with | [_, _], _ => rfl
  have F_least_work_within := fun_mk (st := s_least_work_within) l_least_work_within c_least_work_within k_least_work_within
  have B_least_work_within := F_least_work_within.binds (ps := ["sizes", "reads", "k", "c"]) fun _ _ _ _ _ _ us hl => match us, hl with | [_, _, _, _], _ => rfl
  have F_check_arguments := fun_mk (st := s_check_arguments) l_check_arguments c_check_arguments k_check_arguments
  have B_check_arguments := F_check_arguments.binds (ps := ["sizes", "reads", "k", "c"]) fun _ _ _ _ _ _ us hl => match us, hl with | [_, _, _, _], _ => rfl
  have F_least_tables := fun_mk (st := s_least_tables) l_least_tables c_least_tables k_least_tables
  have B_least_tables := F_least_tables.binds (ps := ["sizes", "reads", "k", "c"]) fun _ _ _ _ _ _ us hl => match us, hl with | [_, _, _, _], _ => rfl
  have F_rows_without_trees := fun_mk (st := s_rows_without_trees) l_rows_without_trees c_rows_without_trees k_rows_without_trees
  have B_rows_without_trees := F_rows_without_trees.binds (ps := ["n"]) fun _ _ _ _ _ _ us hl => match us, hl with | [_], _ => rfl
  have F_rows_over := fun_mk (st := s_rows_over) l_rows_over c_rows_over k_rows_over
  have B_rows_over := F_rows_over.binds (ps := ["lefts", "rights", "sums", "n"]) fun _ _ _ _ _ _ us hl => match us, hl with | [_, _, _, _], _ => rfl
  have F_schedule_in_bounded := fun_mk (st := s_schedule_in_bounded) l_schedule_in_bounded c_schedule_in_bounded k_schedule_in_bounded
  have B_schedule_in_bounded := F_schedule_in_bounded.binds (ps := ["tables", "sums", "b", "a", "start", "stop"]) fun _ _ _ _ _ _ us hl => match us, hl with | [_, _, _, _, _, _], _ => rfl
  have F_write_work := fun_mk (st := s_write_work) l_write_work c_write_work k_write_work
  have B_write_work := F_write_work.binds (ps := ["schedule", "sizes"]) fun _ _ _ _ _ _ us hl => match us, hl with | [_, _], _ => rfl
  have F_weighted := fun_mk (st := s_weighted) l_weighted c_weighted k_weighted
  have B_weighted := F_weighted.binds (ps := ["loads", "counts"]) fun _ _ _ _ _ _ us hl => match us, hl with | [_, _], _ => rfl
  have F_read_work := fun_mk (st := s_read_work) l_read_work c_read_work k_read_work
  have B_read_work := F_read_work.binds (ps := ["schedule", "reads"]) fun _ _ _ _ _ _ us hl => match us, hl with | [_, _], _ => rfl
  have F_work := fun_mk (st := s_work) l_work c_work k_work
  have B_work := F_work.binds (ps := ["schedule", "sizes", "reads"]) fun _ _ _ _ _ _ us hl => match us, hl with | [_, _, _], _ => rfl
  have F_corners := fun_mk (st := s_corners) l_corners c_corners k_corners
  have B_corners := F_corners.binds (ps := ["sizes", "reads"]) fun _ _ _ _ _ _ us hl => match us, hl with | [_, _], _ => rfl
  have F_corners_with_schedules := fun_mk (st := s_corners_with_schedules) l_corners_with_schedules c_corners_with_schedules k_corners_with_schedules
  have B_corners_with_schedules := F_corners_with_schedules.binds (ps := ["sizes", "reads"]) fun _ _ _ _ _ _ us hl => match us, hl with | [_, _], _ => rfl
  have F_first_direction := fun_mk (st := s_first_direction) l_first_direction c_first_direction k_first_direction
  have B_first_direction := F_first_direction.binds (ps := ["reads"]) fun _ _ _ _ _ _ us hl => match us, hl with | [_], _ => rfl
  have F_last_direction := fun_mk (st := s_last_direction) l_last_direction c_last_direction k_last_direction
  have B_last_direction := F_last_direction.binds (ps := ["sizes"]) fun _ _ _ _ _ _ us hl => match us, hl with | [_], _ => rfl
  have F_direction_between := fun_mk (st := s_direction_between) l_direction_between c_direction_between k_direction_between
  have B_direction_between := F_direction_between.binds (ps := ["point", "following"]) fun _ _ _ _ _ _ us hl => match us, hl with | [_, _], _ => rfl
  have F_tilted := fun_mk (st := s_tilted) l_tilted c_tilted k_tilted
  have B_tilted := F_tilted.binds (ps := ["direction", "sizes"]) fun _ _ _ _ _ _ us hl => match us, hl with | [_, _], _ => rfl
  have F_best_at := fun_mk (st := s_best_at) l_best_at c_best_at k_best_at
  have B_best_at := F_best_at.binds (ps := ["direction", "sizes", "reads"]) fun _ _ _ _ _ _ us hl => match us, hl with | [_, _, _], _ => rfl
  have F_scaled := fun_mk (st := s_scaled) l_scaled c_scaled k_scaled
  have B_scaled := F_scaled.binds (ps := ["loads", "price"]) fun _ _ _ _ _ _ us hl => match us, hl with | [_, _], _ => rfl
  have F_point_of := fun_mk (st := s_point_of) l_point_of c_point_of k_point_of
  have B_point_of := F_point_of.binds (ps := ["schedule", "sizes", "reads"]) fun _ _ _ _ _ _ us hl => match us, hl with | [_, _, _], _ => rfl
  have F_is_tree := fun_mk (st := s_is_tree) l_is_tree c_is_tree k_is_tree
  have B_is_tree := F_is_tree.binds (ps := ["value"]) fun _ _ _ _ _ _ us hl => match us, hl with | [_], _ => rfl
  have F_is_numbered_in_order := fun_mk (st := s_is_numbered_in_order) l_is_numbered_in_order c_is_numbered_in_order k_is_numbered_in_order
  have B_is_numbered_in_order := F_is_numbered_in_order.binds (ps := ["parents"]) fun _ _ _ _ _ _ us hl => match us, hl with | [_], _ => rfl
  have F_tree_of := fun_mk (st := s_tree_of) l_tree_of c_tree_of k_tree_of
  have B_tree_of := F_tree_of.binds (ps := ["schedule"]) fun _ _ _ _ _ _ us hl => match us, hl with | [_], _ => rfl
  have F_schedule_of := fun_mk (st := s_schedule_of) l_schedule_of c_schedule_of k_schedule_of
  have B_schedule_of := F_schedule_of.binds (ps := ["tree"]) fun _ _ _ _ _ _ us hl => match us, hl with | [_], _ => rfl
  have F_edges := fun_mk (st := s_edges) l_edges c_edges k_edges
  have B_edges := F_edges.binds (ps := ["tree"]) fun _ _ _ _ _ _ us hl => match us, hl with | [_], _ => rfl
  have F_edges_above := fun_mk (st := s_edges_above) l_edges_above c_edges_above k_edges_above
  have B_edges_above := F_edges_above.binds (ps := ["tree", "node"]) fun _ _ _ _ _ _ us hl => match us, hl with | [_, _], _ => rfl
  have F_mirror := fun_mk (st := s_mirror) l_mirror c_mirror k_mirror
  have B_mirror := F_mirror.binds (ps := ["schedule"]) fun _ _ _ _ _ _ us hl => match us, hl with | [_], _ => rfl
  have F_mirrored_node := fun_mk (st := s_mirrored_node) l_mirrored_node c_mirrored_node k_mirrored_node
  have B_mirrored_node := F_mirrored_node.binds (ps := ["node", "last"]) fun _ _ _ _ _ _ us hl => match us, hl with | [_, _], _ => rfl
  have F_L_pot := fun_mk (st := s_L_pot) l_L_pot c_L_pot k_L_pot
  have B_L_pot := F_L_pot.binds (ps := ["_law_script", "_law_k"]) fun _ _ _ _ _ _ us hl => match us, hl with | [_, _], _ => rfl
  have F_L_take := fun_mk (st := s_L_take) l_L_take c_L_take k_L_take
  have B_L_take := F_L_take.binds (ps := ["_law_pot_here", "_law_wide"]) fun _ _ _ _ _ _ us hl => match us, hl with | [_, _], _ => rfl
  have F_L_of := fun_mk (st := s_L_of) l_L_of c_L_of k_L_of
  have B_L_of := F_L_of.binds (ps := ["_law_pot_here", "_law_some"]) fun _ _ _ _ _ _ us hl => match us, hl with | [_, _], _ => rfl
  have F_L_counted := fun_mk (st := s_L_counted) l_L_counted c_L_counted k_L_counted
  have B_L_counted := F_L_counted.binds (ps := ["_law_plan"]) fun _ _ _ _ _ _ us hl => match us, hl with | [_], _ => rfl
  have F_L_load := fun_mk (st := s_L_load) l_L_load c_L_load k_L_load
  have B_L_load := F_L_load.binds (ps := ["_law_pot_here", "_law_count", "_law_wide"]) fun _ _ _ _ _ _ us hl => match us, hl with | [_, _, _], _ => rfl
  have F_L_within := fun_mk (st := s_L_within) l_L_within c_L_within k_L_within
  have B_L_within := F_L_within.binds (ps := ["_law_plan", "_law_k", "_law_c"]) fun _ _ _ _ _ _ us hl => match us, hl with | [_, _, _], _ => rfl
  have F_L_mirrored_right := fun_mk (st := s_L_mirrored_right) l_L_mirrored_right c_L_mirrored_right k_L_mirrored_right
  have B_L_mirrored_right := F_L_mirrored_right.binds (ps := ["_law_bulk", "_law_looks"]) fun _ _ _ _ _ _ us hl => match us, hl with | [_, _], _ => rfl
  have F_L_right := fun_mk (st := s_L_right) l_L_right c_L_right k_L_right
  have B_L_right := F_L_right.binds (ps := ["_law_pot_here"]) fun _ _ _ _ _ _ us hl => match us, hl with | [_], _ => rfl
  have F_law := fun_mk (st := s_law) l_law c_law k_law
  have B_law := F_law.binds (ps := ["_law_script"]) fun _ _ _ _ _ _ us hl => match us, hl with | [_], _ => rfl
  let TX : Tx K mg := ⟨_, _, F_is_int, PySem.W.mg_of X G a_is_int, B_is_int, _, _, F_is_count, PySem.W.mg_of X G a_is_count, B_is_count, _, _, F_is_count_up_to, PySem.W.mg_of X G a_is_count_up_to, B_is_count_up_to, _, _, F_check_budgets, PySem.W.mg_of X G a_check_budgets, B_check_budgets, _, _, F_are_loads, PySem.W.mg_of X G a_are_loads, B_are_loads, _, _, F_check_sizes, PySem.W.mg_of X G a_check_sizes, B_check_sizes, _, _, F_check_reads, PySem.W.mg_of X G a_check_reads, B_check_reads, _, _, F_check_loads, PySem.W.mg_of X G a_check_loads, B_check_loads, _, _, F_is_schedule, PySem.W.mg_of X G a_is_schedule, B_is_schedule, _, _, F_stacks, PySem.W.mg_of X G a_stacks, B_stacks, _, _, F_stack_after, PySem.W.mg_of X G a_stack_after, B_stack_after, _, _, F_writes, PySem.W.mg_of X G a_writes, B_writes, _, _, F_run_counts, PySem.W.mg_of X G a_run_counts, B_run_counts, _, _, F_runs_at_end, PySem.W.mg_of X G a_runs_at_end, B_runs_at_end, _, _, F_least_work, PySem.W.mg_of X G a_least_work, B_least_work, _, _, F_least_of, PySem.W.mg_of X G a_least_of, B_least_of, _, _, F_least_rows, PySem.W.mg_of X G a_least_rows, B_least_rows, _, _, F_load_sums, PySem.W.mg_of X G a_load_sums, B_load_sums, _, _, F_running_sums, PySem.W.mg_of X G a_running_sums, B_running_sums, _, _, F_works_by_root, PySem.W.mg_of X G a_works_by_root, B_works_by_root, _, _, F_root_cost, PySem.W.mg_of X G a_root_cost, B_root_cost, _, _, F_schedule_in_optimum, PySem.W.mg_of X G a_schedule_in_optimum, B_schedule_in_optimum, _, _, F_least_root, PySem.W.mg_of X G a_least_root, B_least_root, _, _, F_joined, PySem.W.mg_of X G a_joined, B_joined, _, _, F_least_work_within, PySem.W.mg_of X G a_least_work_within, B_least_work_within, _, _, F_check_arguments, PySem.W.mg_of X G a_check_arguments, B_check_arguments, _, _, F_least_tables, PySem.W.mg_of X G a_least_tables, B_least_tables, _, _, F_rows_without_trees, PySem.W.mg_of X G a_rows_without_trees, B_rows_without_trees, _, _, F_rows_over, PySem.W.mg_of X G a_rows_over, B_rows_over, _, _, F_schedule_in_bounded, PySem.W.mg_of X G a_schedule_in_bounded, B_schedule_in_bounded, _, _, F_write_work, PySem.W.mg_of X G a_write_work, B_write_work, _, _, F_weighted, PySem.W.mg_of X G a_weighted, B_weighted, _, _, F_read_work, PySem.W.mg_of X G a_read_work, B_read_work, _, _, F_work, PySem.W.mg_of X G a_work, B_work, _, _, F_corners, PySem.W.mg_of X G a_corners, B_corners, _, _, F_corners_with_schedules, PySem.W.mg_of X G a_corners_with_schedules, B_corners_with_schedules, _, _, F_first_direction, PySem.W.mg_of X G a_first_direction, B_first_direction, _, _, F_last_direction, PySem.W.mg_of X G a_last_direction, B_last_direction, _, _, F_direction_between, PySem.W.mg_of X G a_direction_between, B_direction_between, _, _, F_tilted, PySem.W.mg_of X G a_tilted, B_tilted, _, _, F_best_at, PySem.W.mg_of X G a_best_at, B_best_at, _, _, F_scaled, PySem.W.mg_of X G a_scaled, B_scaled, _, _, F_point_of, PySem.W.mg_of X G a_point_of, B_point_of, _, _, F_is_tree, PySem.W.mg_of X G a_is_tree, B_is_tree, _, _, F_is_numbered_in_order, PySem.W.mg_of X G a_is_numbered_in_order, B_is_numbered_in_order, _, _, F_tree_of, PySem.W.mg_of X G a_tree_of, B_tree_of, _, _, F_schedule_of, PySem.W.mg_of X G a_schedule_of, B_schedule_of, _, _, F_edges, PySem.W.mg_of X G a_edges, B_edges, _, _, F_edges_above, PySem.W.mg_of X G a_edges_above, B_edges_above, _, _, F_mirror, PySem.W.mg_of X G a_mirror, B_mirror, _, _, F_mirrored_node, PySem.W.mg_of X G a_mirrored_node, B_mirrored_node, _, _, F_L_pot, PySem.W.mg_of X G a_L_pot, B_L_pot, _, _, F_L_take, PySem.W.mg_of X G a_L_take, B_L_take, _, _, F_L_of, PySem.W.mg_of X G a_L_of, B_L_of, _, _, F_L_counted, PySem.W.mg_of X G a_L_counted, B_L_counted, _, _, F_L_load, PySem.W.mg_of X G a_L_load, B_L_load, _, _, F_L_within, PySem.W.mg_of X G a_L_within, B_L_within, _, _, F_L_mirrored_right, PySem.W.mg_of X G a_L_mirrored_right, B_L_mirrored_right, _, _, F_L_right, PySem.W.mg_of X G a_L_right, B_L_right, _, _, F_law, PySem.W.mg_of X G a_law, B_law, PySem.W.mg_none_of X G z_isinstance, PySem.W.mg_none_of X G z_int, PySem.W.mg_none_of X G z_bool, PySem.W.mg_none_of X G z_all, PySem.W.mg_none_of X G z_tuple, PySem.W.mg_none_of X G z_len, PySem.W.mg_none_of X G z_enumerate, PySem.W.mg_none_of X G z_range, PySem.W.mg_none_of X G z_sum, PySem.W.mg_none_of X G z_reversed, PySem.W.mg_none_of X G z_min, PySem.W.mg_none_of X G z_zip, PySem.W.mg_none_of X G z_max, PySem.W.mg_none_of X G z_abs, _, PySem.W.mg_of X G y_MOST_LOAD, _, PySem.W.mg_of X G y_MOST_FLUSHES, _, PySem.W.mg_of X G y_MOST_BOUNDED_FLUSHES, _, PySem.W.mg_of X G y_MOST_BOUNDED_BUDGET, _, PySem.W.mg_of X G y_MOST_PRICED_FLUSHES, _, PySem.W.mg_of X G y_NO_PARENT⟩
  exact ⟨TX.fd_law, fun s v => .of_eq rfl, fun base _ _ => ok_law TX⟩
end MB
open PySem PySem.W PyProof.Rows
set_option maxHeartbeats 0 in
theorem PySem.Challenge.cw_mergebudget_k84_whole_mirrored_problems_holds : PySem.Challenge.rw_mergebudget_k84_whole_mirrored_problems.Holds := by
  w_on; o_law; k_head; (case hw => w_witness2)
  k_fill
  refine L2.walk_of (l := PySem.Challenge.rw_mergebudget_k84_whole_mirrored_problems) (n := 63) (k := 70) (x := "_law_script") (CX := fun _ => L2.CX0) (sp := fun w => MB.sp_law _) rfl (by decide) rfl ⟨rfl, by decide, by decide⟩ (fun w h Y => PySem.W.kIn_of Y) ?F (fun _ _ a ns hl _ hS => ⟨a, ns, rfl, hS, hl, fun _ => rfl⟩) (fun _ _ _ _ _ h => h)
  case F =>
    intro w mg fa h KX G hmg
    refine' MB.all_mk KX G hmg ?a_is_int ?l_is_int ?c_is_int ?k_is_int ?a_is_count ?l_is_count ?c_is_count ?k_is_count ?a_is_count_up_to ?l_is_count_up_to ?c_is_count_up_to ?k_is_count_up_to ?a_check_budgets ?l_check_budgets ?c_check_budgets ?k_check_budgets ?a_are_loads ?l_are_loads ?c_are_loads ?k_are_loads ?a_check_sizes ?l_check_sizes ?c_check_sizes ?k_check_sizes ?a_check_reads ?l_check_reads ?c_check_reads ?k_check_reads ?a_check_loads ?l_check_loads ?c_check_loads ?k_check_loads ?a_is_schedule ?l_is_schedule ?c_is_schedule ?k_is_schedule ?a_stacks ?l_stacks ?c_stacks ?k_stacks ?a_stack_after ?l_stack_after ?c_stack_after ?k_stack_after ?a_writes ?l_writes ?c_writes ?k_writes ?a_run_counts ?l_run_counts ?c_run_counts ?k_run_counts ?a_runs_at_end ?l_runs_at_end ?c_runs_at_end ?k_runs_at_end ?a_least_work ?l_least_work ?c_least_work ?k_least_work ?a_least_of ?l_least_of ?c_least_of ?k_least_of ?a_least_rows ?l_least_rows ?c_least_rows ?k_least_rows ?a_load_sums ?l_load_sums ?c_load_sums ?k_load_sums ?a_running_sums ?l_running_sums ?c_running_sums ?k_running_sums ?a_works_by_root ?l_works_by_root ?c_works_by_root ?k_works_by_root ?a_root_cost ?l_root_cost ?c_root_cost ?k_root_cost ?a_schedule_in_optimum ?l_schedule_in_optimum ?c_schedule_in_optimum ?k_schedule_in_optimum ?a_least_root ?l_least_root ?c_least_root ?k_least_root ?a_joined ?l_joined ?c_joined ?k_joined ?a_least_work_within ?l_least_work_within ?c_least_work_within ?k_least_work_within ?a_check_arguments ?l_check_arguments ?c_check_arguments ?k_check_arguments ?a_least_tables ?l_least_tables ?c_least_tables ?k_least_tables ?a_rows_without_trees ?l_rows_without_trees ?c_rows_without_trees ?k_rows_without_trees ?a_rows_over ?l_rows_over ?c_rows_over ?k_rows_over ?a_schedule_in_bounded ?l_schedule_in_bounded ?c_schedule_in_bounded ?k_schedule_in_bounded ?a_write_work ?l_write_work ?c_write_work ?k_write_work ?a_weighted ?l_weighted ?c_weighted ?k_weighted ?a_read_work ?l_read_work ?c_read_work ?k_read_work ?a_work ?l_work ?c_work ?k_work ?a_corners ?l_corners ?c_corners ?k_corners ?a_corners_with_schedules ?l_corners_with_schedules ?c_corners_with_schedules ?k_corners_with_schedules ?a_first_direction ?l_first_direction ?c_first_direction ?k_first_direction ?a_last_direction ?l_last_direction ?c_last_direction ?k_last_direction ?a_direction_between ?l_direction_between ?c_direction_between ?k_direction_between ?a_tilted ?l_tilted ?c_tilted ?k_tilted ?a_best_at ?l_best_at ?c_best_at ?k_best_at ?a_scaled ?l_scaled ?c_scaled ?k_scaled ?a_point_of ?l_point_of ?c_point_of ?k_point_of ?a_is_tree ?l_is_tree ?c_is_tree ?k_is_tree ?a_is_numbered_in_order ?l_is_numbered_in_order ?c_is_numbered_in_order ?k_is_numbered_in_order ?a_tree_of ?l_tree_of ?c_tree_of ?k_tree_of ?a_schedule_of ?l_schedule_of ?c_schedule_of ?k_schedule_of ?a_edges ?l_edges ?c_edges ?k_edges ?a_edges_above ?l_edges_above ?c_edges_above ?k_edges_above ?a_mirror ?l_mirror ?c_mirror ?k_mirror ?a_mirrored_node ?l_mirrored_node ?c_mirrored_node ?k_mirrored_node ?a_L_pot ?l_L_pot ?c_L_pot ?k_L_pot ?a_L_take ?l_L_take ?c_L_take ?k_L_take ?a_L_of ?l_L_of ?c_L_of ?k_L_of ?a_L_counted ?l_L_counted ?c_L_counted ?k_L_counted ?a_L_load ?l_L_load ?c_L_load ?k_L_load ?a_L_within ?l_L_within ?c_L_within ?k_L_within ?a_L_mirrored_right ?l_L_mirrored_right ?c_L_mirrored_right ?k_L_mirrored_right ?a_L_right ?l_L_right ?c_L_right ?k_L_right ?a_law ?l_law ?c_law ?k_law ?z_isinstance ?z_int ?z_bool ?z_all ?z_tuple ?z_len ?z_enumerate ?z_range ?z_sum ?z_reversed ?z_min ?z_zip ?z_max ?z_abs ?y_MOST_LOAD ?y_MOST_FLUSHES ?y_MOST_BOUNDED_FLUSHES ?y_MOST_BOUNDED_BUDGET ?y_MOST_PRICED_FLUSHES ?y_NO_PARENT
    (case a_is_int => k_is); (case l_is_int => k_is); (case c_is_int => k_is); (case k_is_int => k_is); (case a_is_count => k_is); (case l_is_count => k_is); (case c_is_count => k_is); (case k_is_count => k_is); (case a_is_count_up_to => k_is); (case l_is_count_up_to => k_is); (case c_is_count_up_to => k_is); (case k_is_count_up_to => k_is); (case a_check_budgets => k_is); (case l_check_budgets => k_is); (case c_check_budgets => k_is); (case k_check_budgets => k_is); (case a_are_loads => k_is); (case l_are_loads => k_is); (case c_are_loads => k_is); (case k_are_loads => k_is); (case a_check_sizes => k_is); (case l_check_sizes => k_is); (case c_check_sizes => k_is); (case k_check_sizes => k_is); (case a_check_reads => k_is); (case l_check_reads => k_is); (case c_check_reads => k_is); (case k_check_reads => k_is); (case a_check_loads => k_is); (case l_check_loads => k_is); (case c_check_loads => k_is); (case k_check_loads => k_is); (case a_is_schedule => k_is); (case l_is_schedule => k_is); (case c_is_schedule => k_is); (case k_is_schedule => k_is); (case a_stacks => k_is); (case l_stacks => k_is); (case c_stacks => k_is); (case k_stacks => k_is); (case a_stack_after => k_is); (case l_stack_after => k_is); (case c_stack_after => k_is); (case k_stack_after => k_is); (case a_writes => k_is); (case l_writes => k_is); (case c_writes => k_is); (case k_writes => k_is); (case a_run_counts => k_is); (case l_run_counts => k_is); (case c_run_counts => k_is); (case k_run_counts => k_is); (case a_runs_at_end => k_is); (case l_runs_at_end => k_is); (case c_runs_at_end => k_is); (case k_runs_at_end => k_is); (case a_least_work => k_is); (case l_least_work => k_is); (case c_least_work => k_is); (case k_least_work => k_is); (case a_least_of => k_is); (case l_least_of => k_is); (case c_least_of => k_is); (case k_least_of => k_is); (case a_least_rows => k_is); (case l_least_rows => k_is); (case c_least_rows => k_is); (case k_least_rows => k_is); (case a_load_sums => k_is); (case l_load_sums => k_is); (case c_load_sums => k_is); (case k_load_sums => k_is); (case a_running_sums => k_is); (case l_running_sums => k_is); (case c_running_sums => k_is); (case k_running_sums => k_is); (case a_works_by_root => k_is); (case l_works_by_root => k_is); (case c_works_by_root => k_is); (case k_works_by_root => k_is); (case a_root_cost => k_is); (case l_root_cost => k_is); (case c_root_cost => k_is); (case k_root_cost => k_is); (case a_schedule_in_optimum => k_is); (case l_schedule_in_optimum => k_is); (case c_schedule_in_optimum => k_is); (case k_schedule_in_optimum => k_is); (case a_least_root => k_is); (case l_least_root => k_is); (case c_least_root => k_is); (case k_least_root => k_is); (case a_joined => k_is); (case l_joined => k_is); (case c_joined => k_is); (case k_joined => k_is); (case a_least_work_within => k_is); (case l_least_work_within => k_is); (case c_least_work_within => k_is); (case k_least_work_within => k_is); (case a_check_arguments => k_is); (case l_check_arguments => k_is); (case c_check_arguments => k_is); (case k_check_arguments => k_is); (case a_least_tables => k_is); (case l_least_tables => k_is); (case c_least_tables => k_is); (case k_least_tables => k_is); (case a_rows_without_trees => k_is); (case l_rows_without_trees => k_is); (case c_rows_without_trees => k_is); (case k_rows_without_trees => k_is); (case a_rows_over => k_is); (case l_rows_over => k_is); (case c_rows_over => k_is); (case k_rows_over => k_is); (case a_schedule_in_bounded => k_is); (case l_schedule_in_bounded => k_is); (case c_schedule_in_bounded => k_is); (case k_schedule_in_bounded => k_is); (case a_write_work => k_is); (case l_write_work => k_is); (case c_write_work => k_is); (case k_write_work => k_is); (case a_weighted => k_is); (case l_weighted => k_is); (case c_weighted => k_is); (case k_weighted => k_is); (case a_read_work => k_is); (case l_read_work => k_is); (case c_read_work => k_is); (case k_read_work => k_is); (case a_work => k_is); (case l_work => k_is); (case c_work => k_is); (case k_work => k_is); (case a_corners => k_is); (case l_corners => k_is); (case c_corners => k_is); (case k_corners => k_is); (case a_corners_with_schedules => k_is); (case l_corners_with_schedules => k_is); (case c_corners_with_schedules => k_is); (case k_corners_with_schedules => k_is); (case a_first_direction => k_is); (case l_first_direction => k_is); (case c_first_direction => k_is); (case k_first_direction => k_is); (case a_last_direction => k_is); (case l_last_direction => k_is); (case c_last_direction => k_is); (case k_last_direction => k_is); (case a_direction_between => k_is); (case l_direction_between => k_is); (case c_direction_between => k_is); (case k_direction_between => k_is); (case a_tilted => k_is); (case l_tilted => k_is); (case c_tilted => k_is); (case k_tilted => k_is); (case a_best_at => k_is); (case l_best_at => k_is); (case c_best_at => k_is); (case k_best_at => k_is); (case a_scaled => k_is); (case l_scaled => k_is); (case c_scaled => k_is); (case k_scaled => k_is); (case a_point_of => k_is); (case l_point_of => k_is); (case c_point_of => k_is); (case k_point_of => k_is); (case a_is_tree => k_is); (case l_is_tree => k_is); (case c_is_tree => k_is); (case k_is_tree => k_is); (case a_is_numbered_in_order => k_is); (case l_is_numbered_in_order => k_is); (case c_is_numbered_in_order => k_is); (case k_is_numbered_in_order => k_is); (case a_tree_of => k_is); (case l_tree_of => k_is); (case c_tree_of => k_is); (case k_tree_of => k_is); (case a_schedule_of => k_is); (case l_schedule_of => k_is); (case c_schedule_of => k_is); (case k_schedule_of => k_is); (case a_edges => k_is); (case l_edges => k_is); (case c_edges => k_is); (case k_edges => k_is); (case a_edges_above => k_is); (case l_edges_above => k_is); (case c_edges_above => k_is); (case k_edges_above => k_is); (case a_mirror => k_is); (case l_mirror => k_is); (case c_mirror => k_is); (case k_mirror => k_is); (case a_mirrored_node => k_is); (case l_mirrored_node => k_is); (case c_mirrored_node => k_is); (case k_mirrored_node => k_is); (case a_L_pot => k_is); (case l_L_pot => k_is); (case c_L_pot => k_is); (case k_L_pot => k_is); (case a_L_take => k_is); (case l_L_take => k_is); (case c_L_take => k_is); (case k_L_take => k_is); (case a_L_of => k_is); (case l_L_of => k_is); (case c_L_of => k_is); (case k_L_of => k_is); (case a_L_counted => k_is); (case l_L_counted => k_is); (case c_L_counted => k_is); (case k_L_counted => k_is); (case a_L_load => k_is); (case l_L_load => k_is); (case c_L_load => k_is); (case k_L_load => k_is); (case a_L_within => k_is); (case l_L_within => k_is); (case c_L_within => k_is); (case k_L_within => k_is); (case a_L_mirrored_right => k_is); (case l_L_mirrored_right => k_is); (case c_L_mirrored_right => k_is); (case k_L_mirrored_right => k_is); (case a_L_right => k_is); (case l_L_right => k_is); (case c_L_right => k_is); (case k_L_right => k_is); (case a_law => k_is); (case l_law => k_is); (case c_law => k_is); (case k_law => k_is); (case z_isinstance => k_is); (case z_int => k_is); (case z_bool => k_is); (case z_all => k_is); (case z_tuple => k_is); (case z_len => k_is); (case z_enumerate => k_is); (case z_range => k_is); (case z_sum => k_is); (case z_reversed => k_is); (case z_min => k_is); (case z_zip => k_is); (case z_max => k_is); (case z_abs => k_is); (case y_MOST_LOAD => k_is); (case y_MOST_FLUSHES => k_is); (case y_MOST_BOUNDED_FLUSHES => k_is); (case y_MOST_BOUNDED_BUDGET => k_is); (case y_MOST_PRICED_FLUSHES => k_is); (case y_NO_PARENT => k_is)
