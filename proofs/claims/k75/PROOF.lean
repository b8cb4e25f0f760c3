import PyProof.Rows.All
import Wide.All
import OpenK.AllK
import Wide.FinOn
import HandS.ForMost
import HandS.IsInst
import HandS.Wide
import HandS.TupAny
import HandS.TupMul
import HandS.Rev
import HandS.Style
import HandS.Strs
import HandS.Walk
import KE.GoesEnum
import HandS.Dict
import HandS.TupSets
import KE.KDictPairs
import PyProof.ReprRoads
import PyProof.ReprBulk
import HandS.WideMore
import HandS.ExcInit
import HandS.ExcField
import HandS.ExcIs
import HandS.ExcValue
import KE.KExcIs
import HandS.Exc
import HandS.Lambda
import HandS.EndTab
import KE.KNestM
import HandS.WordsExc
import KE.DataFind
import KE.KSortTupG
import KE.KDictWalk
import KE.KDictSum
import HandS.SortKw
import HandS.SortInts
import KE.DataMinMax
import HandS.List
import HandS.Deep
import PySem.Challenge.RW_mergebudget_k75_whole_lifetimes_are_exac
set_option Elab.async false
set_option linter.all false
set_option maxRecDepth 100000
namespace MB
inductive T where
  | nil
  | node (l r : T)
  deriving DecidableEq

namespace T
def size : T → Nat
  | nil => 0
  | node l r => l.size + 1 + r.size
def runs : T → Nat
  | nil => 0
  | node _ r => 1 + r.runs
def sch : T → List Nat
  | nil => []
  | node l r => l.sch ++ l.runs :: r.sch
def rc : T → List Nat
  | nil => []
  | node l r => l.rc ++ 1 :: r.rc.map (· + 1)
def wr : T → List Nat
  | nil => []
  | node l r => l.wr.map (· + 1) ++ 1 :: r.wr
/-- parents: off, the number of the first node; p, the parent of the root -/
def par (off p : Int) : T → List Int
  | nil => []
  | node l r => par off (off + l.size) l ++ p :: par (off + l.size + 1) (off + l.size) r
def mir : T → T
  | nil => nil
  | node l r => node r.mir l.mir
def push (t : T) (m : Nat) : T :=
  if m = t.runs then node t nil else match t with
    | nil => nil
    | node l r => node l (push r m)
/-- the first flush of the run that a flush that merges m writes -/
def start (t : T) (m : Nat) : Nat :=
  if m = t.runs then 0 else match t with
    | nil => 0
    | node l r => l.size + 1 + start r m
/-- the stack: intervals of the right spine -/
def stk (off : Nat) : T → List (Nat × Nat)
  | nil => []
  | node l r => (off, off + l.size + 1) :: stk (off + l.size + 1) r
def graft : T → T → T
  | nil, t => t
  | node l r, t => node l (graft r t)

theorem sch_len : ∀ t : T, t.sch.length = t.size
  | nil => rfl
  | node l r => by simp [sch, size, sch_len l, sch_len r]; omega
theorem rc_len : ∀ t : T, t.rc.length = t.size
  | nil => rfl
  | node l r => by simp [rc, size, rc_len l, rc_len r]; omega
theorem wr_len : ∀ t : T, t.wr.length = t.size
  | nil => rfl
  | node l r => by simp [wr, size, wr_len l, wr_len r]; omega
theorem par_len : ∀ (t : T) (off p : Int), (t.par off p).length = t.size
  | nil, _, _ => rfl
  | node l r, off, p => by simp [par, size, par_len l, par_len r]; omega
theorem runs_le : ∀ t : T, t.runs ≤ t.size
  | nil => Nat.le_refl _
  | node l r => by have := runs_le r; simp [runs, size]; omega
theorem sum_sch : ∀ t : T, t.sch.sum + t.runs = t.size
  | nil => rfl
  | node l r => by
    have h1 := sum_sch l; have h2 := sum_sch r
    simp [sch, runs, size, List.sum_append]; omega
theorem stk_len : ∀ (t : T) (off : Nat), (t.stk off).length = t.runs
  | nil, _ => rfl
  | node l r, off => by simp [stk, runs, stk_len r]; omega

/-! ### push -/
theorem push_eq {t : T} : t.push t.runs = node t nil := by
  unfold push; rw [if_pos rfl]
theorem push_node {l r : T} {m : Nat} (h : m ≤ r.runs) : (node l r).push m = node l (r.push m) := by
  conv => lhs; unfold push
  rw [if_neg (by simp [runs]; omega)]
theorem start_eq {t : T} : t.start t.runs = 0 := by
  unfold start; rw [if_pos rfl]
theorem start_node {l r : T} {m : Nat} (h : m ≤ r.runs) : (node l r).start m = l.size + 1 + r.start m := by
  conv => lhs; unfold start
  rw [if_neg (by simp [runs]; omega)]
/-- the two ways of a push -/
theorem push_ind {C : T → Nat → Prop} (h1 : ∀ t, C t t.runs) (h2 : ∀ l r m, m ≤ r.runs → C r m → C (node l r) m) : ∀ (t : T) (m : Nat), m ≤ t.runs → C t m
  | nil, m, h => by
    have : m = nil.runs := by simp [runs] at h ⊢; omega
    rw [this]; exact h1 nil
  | node l r, m, h => by
    by_cases e : m = (node l r).runs
    · rw [e]; exact h1 _
    · have hm : m ≤ r.runs := by simp [runs] at h e; omega
      exact h2 l r m hm (push_ind h1 h2 r m hm)
theorem push_sch : ∀ (t : T) (m : Nat), m ≤ t.runs → (t.push m).sch = t.sch ++ [m] :=
  push_ind (fun t => by rw [push_eq]; simp [sch]) fun l r m h ih => by rw [push_node h]; simp [sch, ih]
theorem push_size : ∀ (t : T) (m : Nat), m ≤ t.runs → (t.push m).size = t.size + 1 :=
  push_ind (fun t => by rw [push_eq]; simp [size]) fun l r m h ih => by rw [push_node h]; simp [size, ih]; omega
theorem push_runs : ∀ (t : T) (m : Nat), m ≤ t.runs → (t.push m).runs = t.runs - m + 1 :=
  push_ind (fun t => by rw [push_eq]; simp [runs]) fun l r m h ih => by rw [push_node h]; simp [runs, ih]; omega
theorem push_rc : ∀ (t : T) (m : Nat), m ≤ t.runs → (t.push m).rc = t.rc ++ [t.runs - m + 1] :=
  push_ind (fun t => by rw [push_eq]; simp [rc]) fun l r m h ih => by
    rw [push_node h]; simp [rc, ih, runs]; omega
theorem start_le : ∀ (t : T) (m : Nat), m ≤ t.runs → t.start m ≤ t.size :=
  push_ind (fun t => by rw [start_eq]; omega) fun l r m h ih => by rw [start_node h]; simp [size]; omega
theorem push_wr : ∀ (t : T) (m : Nat), m ≤ t.runs → (t.push m).wr = t.wr.take (t.start m) ++ ((t.wr.drop (t.start m)).map (· + 1) ++ [1]) :=
  push_ind (fun t => by rw [push_eq, start_eq]; simp [wr]) fun l r m h ih => by
    rw [push_node h, start_node h]
    have e : (wr (node l r)) = (l.wr.map (· + 1) ++ [1]) ++ r.wr := by simp [wr]
    have el : (l.wr.map (· + 1) ++ [1]).length = l.size + 1 := by simp [wr_len]
    rw [e, List.take_append, List.drop_append, el]
    rw [List.take_of_length_le (by rw [el]; omega), List.drop_eq_nil_of_le (by rw [el]; omega)]
    rw [show l.size + 1 + r.start m - (l.size + 1) = r.start m by omega]
    simp [wr, ih]
theorem stk_push : ∀ (t : T) (m : Nat), m ≤ t.runs → ∀ off, (t.push m).stk off = (t.stk off).take (t.runs - m) ++ [(off + t.start m, off + t.size + 1)] :=
  push_ind (fun t off => by rw [push_eq, start_eq]; simp [stk]) fun l r m h ih off => by
    rw [push_node h, start_node h]
    have hh : (node l r).runs - m = (r.runs - m) + 1 := by simp [runs]; omega
    rw [hh]
    simp [stk, ih, size]
    omega
theorem stk_at : ∀ (t : T) (m : Nat), m ≤ t.runs → ∀ off, 0 < m → ∃ e, (t.stk off)[t.runs - m]? = some (off + t.start m, e) :=
  push_ind (fun t off h => by
      rw [start_eq, Nat.sub_self]
      cases t with
      | nil => simp [runs] at h
      | node l r => exact ⟨_, rfl⟩) fun l r m h ih off h0 => by
    rw [start_node h]
    have hh : (node l r).runs - m = (r.runs - m) + 1 := by simp [runs]; omega
    rw [hh]
    obtain ⟨e, he⟩ := ih (off + l.size + 1) h0
    refine ⟨e, ?_⟩
    simp only [stk, List.getElem?_cons_succ, he]
    congr 2; omega
theorem start_zero : ∀ (t : T) (m : Nat), m ≤ t.runs → m = 0 → t.start m = t.size :=
  push_ind (fun t h => by
      rw [start_eq]
      cases t with
      | nil => rfl
      | node l r => simp [runs] at h) fun l r m h ih h0 => by
    rw [start_node h, ih h0]; simp [size]

/-! ### schedules and trees -/
theorem graft_nil : ∀ t : T, t.graft nil = t
  | nil => rfl
  | node l r => by simp [graft, graft_nil r]
theorem graft_assoc : ∀ a b c : T, (a.graft b).graft c = a.graft (b.graft c)
  | nil, _, _ => rfl
  | node l r, b, c => by simp [graft, graft_assoc r b c]
theorem graft_runs : ∀ a b : T, (a.graft b).runs = a.runs + b.runs
  | nil, b => by simp [graft, runs]
  | node l r, b => by simp [graft, runs, graft_runs r b]; omega
theorem graft_push : ∀ (u l : T), (u.graft l).push l.runs = u.graft (node l nil)
  | nil, l => by simp [graft, push_eq]
  | node a b, l => by
    simp only [graft]
    rw [push_node (by rw [graft_runs]; omega), graft_push b l]
theorem foldl_sch : ∀ (t u : T), t.sch.foldl push u = u.graft t
  | nil, u => by simp [sch, graft_nil]
  | node l r, u => by
    simp only [sch, List.foldl_append, List.foldl_cons]
    rw [foldl_sch l u, graft_push, foldl_sch r, graft_assoc]
    rfl
theorem sch_inj {a b : T} (h : a.sch = b.sch) : a = b := by
  have e1 := foldl_sch a nil
  have e2 := foldl_sch b nil
  rw [h, e2] at e1
  exact e1.symm
end T

/-- a schedule that begins with `runs` runs -/
def Ok : Nat → List Nat → Prop
  | _, [] => True
  | k, m :: r => m ≤ k ∧ Ok (k - m + 1) r
theorem ok_tree : ∀ (p : List Nat) (u : T), Ok u.runs p → ∃ t : T, t.sch = u.sch ++ p ∧ p.foldl T.push u = t
  | [], u, _ => ⟨u, by simp, rfl⟩
  | m :: r, u, h => by
    obtain ⟨h1, h2⟩ := h
    rw [← T.push_runs u m h1] at h2
    obtain ⟨t, e1, e2⟩ := ok_tree r (u.push m) h2
    exact ⟨t, by rw [e1, T.push_sch u m h1]; simp, e2⟩
theorem tree_ex {p : List Nat} (h : Ok 0 p) : ∃ t : T, t.sch = p := by
  obtain ⟨t, e, _⟩ := ok_tree p .nil h
  exact ⟨t, by rw [e]; rfl⟩
theorem ok_app : ∀ (p q : List Nat) (k k' : Nat), Ok k p → k' + p.sum = k + p.length → Ok k' q → Ok k (p ++ q)
  | [], q, k, k', _, e, h => by
    have : k' = k := by simpa using e
    subst this; exact h
  | m :: r, q, k, k', h, e, hq => ⟨h.1, ok_app r q (k - m + 1) k' h.2 (by have := h.1; simp at e; omega) hq⟩
theorem ok_sch_from : ∀ (t : T) (k : Nat), Ok k t.sch
  | .nil, _ => trivial
  | .node l r, k => by
    refine ok_app l.sch _ k (k + l.runs) (ok_sch_from l k) (by have := T.sum_sch l; rw [T.sch_len]; omega) ?_
    exact ⟨by omega, ok_sch_from r _⟩
theorem ok_take : ∀ (p : List Nat) (k i : Nat), Ok k p → Ok k (p.take i)
  | [], _, i, _ => by cases i <;> trivial
  | m :: r, k, 0, _ => trivial
  | m :: r, k, i + 1, h => ⟨h.1, ok_take r _ i h.2⟩
/-- the tree of the first i flushes -/
def pre (t : T) (i : Nat) : T := (t.sch.take i).foldl T.push .nil
theorem pre_sch (t : T) (i : Nat) : (pre t i).sch = t.sch.take i := by
  obtain ⟨u, e1, e2⟩ := ok_tree (t.sch.take i) .nil (ok_take _ _ i (ok_sch_from t _))
  unfold pre; rw [e2, e1]; rfl
theorem pre_size {t : T} {i : Nat} (h : i ≤ t.size) : (pre t i).size = i := by
  rw [← T.sch_len, pre_sch, List.length_take, T.sch_len]; omega
theorem pre_zero (t : T) : pre t 0 = .nil := rfl
theorem pre_all (t : T) : pre t t.size = t := T.sch_inj (by rw [pre_sch, List.take_of_length_le (by rw [T.sch_len]; exact Nat.le_refl _)])
theorem ok_last : ∀ (p : List Nat) (k m : Nat) (q : List Nat), Ok k (p ++ m :: q) → m + p.sum ≤ k + p.length
  | [], k, m, q, h => by simpa using h.1
  | a :: r, k, m, q, h => by
    have := ok_last r (k - a + 1) m q h.2
    have h1 := h.1
    simp; omega
theorem pre_succ {t : T} {i : Nat} {m : Nat} (h : t.sch[i]? = some m) : pre t (i + 1) = (pre t i).push m ∧ m ≤ (pre t i).runs := by
  have hi : i < t.sch.length := (List.getElem?_eq_some_iff.mp h).1
  constructor
  · unfold pre
    rw [List.take_add_one, h]
    simp
  · have e : t.sch = t.sch.take i ++ m :: t.sch.drop (i + 1) := by
      have h2 := List.getElem?_eq_some_iff.mp h
      obtain ⟨h3, h4⟩ := h2
      rw [← h4]
      simp
    have h1 := ok_sch_from t 0
    rw [e] at h1
    have h2 := ok_last _ _ _ _ h1
    have h3 := T.sum_sch (pre t i)
    rw [pre_sch] at h3
    have h4 : (pre t i).size = (t.sch.take i).length := by rw [← T.sch_len, pre_sch]
    omega
theorem rc_take : ∀ (t : T) (i : Nat), (pre t i).rc = t.rc.take i := by
  intro t i
  by_cases hi : i ≤ t.size
  · suffices h : ∀ k, i + k = t.size → (pre t i).rc = t.rc.take i from h (t.size - i) (by omega)
    intro k
    induction k generalizing i with
    | zero =>
      intro e
      rw [show i = t.size by omega, pre_all, List.take_of_length_le (by rw [T.rc_len]; omega)]
    | succ k ih =>
      intro e
      have hl : i < t.sch.length := by rw [T.sch_len]; omega
      obtain ⟨e1, h1⟩ := pre_succ (List.getElem?_eq_getElem hl)
      have h2 := ih (i + 1) (by omega) (by omega)
      rw [e1, T.push_rc _ _ h1] at h2
      have h3 := congrArg (List.take i) h2
      rw [List.take_append_of_le_length (by rw [T.rc_len, pre_size (by omega)]; omega), List.take_take, List.take_of_length_le (by rw [T.rc_len, pre_size (by omega)]; omega)] at h3
      rw [h3]; congr 1; omega
  · have e : t.sch.take i = t.sch := List.take_of_length_le (by rw [T.sch_len]; omega)
    have : pre t i = t := T.sch_inj (by rw [pre_sch, e])
    rw [this, List.take_of_length_le (by rw [T.rc_len]; omega)]
theorem rc_at {t : T} {i m : Nat} (h : t.sch[i]? = some m) : t.rc[i]? = some ((pre t i).runs - m + 1) := by
  obtain ⟨e1, h1⟩ := pre_succ h
  have hi : i < t.size := by rw [← T.sch_len]; exact (List.getElem?_eq_some_iff.mp h).1
  have h2 := rc_take t (i + 1)
  rw [e1, T.push_rc _ _ h1] at h2
  have h3 := congrArg (fun l : List Nat => l[i]?) h2
  simp only [List.getElem?_take] at h3
  rw [List.getElem?_append_right (by rw [T.rc_len, pre_size (by omega)]; omega), T.rc_len, pre_size (by omega)] at h3
  simp at h3
  exact h3.symm
theorem pre_runs {t : T} {i : Nat} (h : i < t.size) : t.rc[i]? = some (pre t (i + 1)).runs := by
  have hl : i < t.sch.length := by rw [T.sch_len]; exact h
  obtain ⟨e1, h1⟩ := pre_succ (List.getElem?_eq_getElem hl)
  rw [rc_at (List.getElem?_eq_getElem hl), e1, T.push_runs _ _ h1]
/-! ### write counts by place -/
theorem wr_step {t : T} {m : Nat} (h : m ≤ t.runs) (k : Nat) : ((t.push m).wr.getD k 0) = if t.start m ≤ k ∧ k < t.size + 1 then t.wr.getD k 0 + 1 else t.wr.getD k 0 := by
  have hs := T.start_le t m h
  have hl := T.wr_len t
  rw [T.push_wr t m h]
  simp only [List.getD_eq_getElem?_getD]
  by_cases h1 : k < t.start m
  · rw [List.getElem?_append_left (by rw [List.length_take]; omega), List.getElem?_take, if_pos h1, if_neg (by omega)]
  · have e : (t.wr.take (t.start m)).length = t.start m := by rw [List.length_take]; omega
    rw [List.getElem?_append_right (by omega), e]
    by_cases h2 : k < t.size
    · rw [List.getElem?_append_left (by rw [List.length_map, List.length_drop]; omega), List.getElem?_map, List.getElem?_drop, if_pos (by omega), show t.start m + (k - t.start m) = k by omega]
      rw [List.getElem?_eq_getElem (by omega)]
      rfl
    · by_cases h3 : k = t.size
      · have e2 : ((t.wr.drop (t.start m)).map (· + 1)).length = k - t.start m := by rw [List.length_map, List.length_drop]; omega
        rw [List.getElem?_append_right (by omega), e2, Nat.sub_self, if_pos (by omega), List.getElem?_eq_none (by omega : t.wr.length ≤ k)]
        rfl
      · rw [List.getElem?_eq_none (by simp; omega), if_neg (by omega), List.getElem?_eq_none (by omega : t.wr.length ≤ k)]
theorem list_by {c d : List Nat} (hl : c.length = d.length) (h : ∀ k, k < c.length → c[k]? = some (d.getD k 0)) : c = d := by
  refine List.ext_getElem? fun k => ?_
  by_cases hk : k < c.length
  · rw [h k hk, List.getD_eq_getElem?_getD, List.getElem?_eq_getElem (by omega)]
    rfl
  · rw [List.getElem?_eq_none (by omega), List.getElem?_eq_none (by omega)]
theorem stk_last {t : T} {i m : Nat} (h : t.sch[i]? = some m) : (pre t (i + 1)).stk 0 = ((pre t i).stk 0).take ((pre t i).runs - m) ++ [((pre t i).start m, i + 1)] := by
  obtain ⟨e, h1⟩ := pre_succ h
  have hi : i < t.size := by rw [← T.sch_len]; exact (List.getElem?_eq_some_iff.mp h).1
  rw [e, T.stk_push _ _ h1, Nat.zero_add, Nat.zero_add, pre_size (by omega)]

/-! ### subtrees -/
inductive Sub (t : T) : Nat → T → Nat → Int → Prop
  | root : Sub t 0 t 1 (-1)
  | left {off k : Nat} {p : Int} {l r : T} : Sub t off (.node l r) k p → Sub t off l k ((off + l.size : Nat) : Int)
  | right {off k : Nat} {p : Int} {l r : T} : Sub t off (.node l r) k p → Sub t (off + l.size + 1) r (k + 1) ((off + l.size : Nat) : Int)
def T.parOf (t : T) : List Int := t.par 0 (-1)
theorem slice_left {α : Type} {L a b : List α} {x : α} {off : Nat} (h : (L.drop off).take (a.length + 1 + b.length) = a ++ x :: b) : (L.drop off).take a.length = a := by
  have := congrArg (List.take a.length) h
  rw [List.take_take, List.take_left' rfl, show min a.length (a.length + 1 + b.length) = a.length by omega] at this
  exact this
theorem slice_mid {α : Type} {L a b : List α} {x : α} {off : Nat} (h : (L.drop off).take (a.length + 1 + b.length) = a ++ x :: b) : L[off + a.length]? = some x := by
  have := congrArg (fun l : List α => l[a.length]?) h
  simp only [List.getElem?_take, List.getElem?_drop] at this
  rw [if_pos (by omega), List.getElem?_append_right (Nat.le_refl _), Nat.sub_self] at this
  simpa using this
theorem slice_right {α : Type} {L a b : List α} {x : α} {off : Nat} (h : (L.drop off).take (a.length + 1 + b.length) = a ++ x :: b) : (L.drop (off + a.length + 1)).take b.length = b := by
  have := congrArg (List.drop (a.length + 1)) h
  rw [List.drop_take, List.drop_drop] at this
  have e2 : List.drop (a.length + 1) (a ++ x :: b) = b := by
    rw [List.drop_append]; simp
  rw [e2] at this
  have h2 := congrArg (List.take b.length) this
  rw [List.take_take, List.take_length] at h2
  rw [← Nat.add_assoc] at h2
  rw [show b.length = min b.length (a.length + 1 + b.length - (a.length + 1)) by omega]
  exact h2
theorem sub_le {t : T} {off k : Nat} {s : T} {p : Int} (h : Sub t off s k p) : off + s.size ≤ t.size ∧ 1 ≤ k ∧ k ≤ off + 1 := by
  induction h with
  | root => exact ⟨by omega, by omega, by omega⟩
  | left _ ih => simp only [T.size] at ih; omega
  | right _ ih => simp only [T.size] at ih; omega
theorem sub_out {t : T} {off k : Nat} {s : T} {p : Int} (h : Sub t off s k p) : (p = -1 ∨ ((0 ≤ p ∧ p < t.size) ∧ (p + 1 = off ∨ p = ((off + s.size : Nat) : Int)))) := by
  cases h with
  | root => exact .inl rfl
  | left h => have := sub_le h; simp only [T.size] at this; exact .inr ⟨by omega, .inr rfl⟩
  | right h => have := sub_le h; simp only [T.size] at this; exact .inr ⟨by omega, .inl (by omega)⟩
theorem sub_rc {t : T} {off k : Nat} {s : T} {p : Int} (h : Sub t off s k p) : (t.rc.drop off).take s.size = s.rc.map (· + (k - 1)) := by
  induction h with
  | root => simp [← T.rc_len]
  | @left off k p l r h ih =>
    have e : (T.node l r).rc.map (· + (k - 1)) = l.rc.map (· + (k - 1)) ++ (1 + (k - 1)) :: (r.rc.map (· + 1)).map (· + (k - 1)) := by simp [T.rc]
    rw [e] at ih
    have hl : (l.rc.map (· + (k - 1))).length = l.size := by rw [List.length_map, T.rc_len]
    have hr : ((r.rc.map (· + 1)).map (· + (k - 1))).length = r.size := by rw [List.length_map, List.length_map, T.rc_len]
    have := slice_left (a := l.rc.map (· + (k - 1))) (b := (r.rc.map (· + 1)).map (· + (k - 1))) (L := t.rc) (off := off) (x := 1 + (k - 1)) (by rw [hl, hr]; exact ih)
    rw [hl] at this
    exact this
  | @right off k p l r h ih =>
    have e : (T.node l r).rc.map (· + (k - 1)) = l.rc.map (· + (k - 1)) ++ (1 + (k - 1)) :: (r.rc.map (· + 1)).map (· + (k - 1)) := by simp [T.rc]
    rw [e] at ih
    have hl : (l.rc.map (· + (k - 1))).length = l.size := by rw [List.length_map, T.rc_len]
    have hr : ((r.rc.map (· + 1)).map (· + (k - 1))).length = r.size := by rw [List.length_map, List.length_map, T.rc_len]
    have := slice_right (a := l.rc.map (· + (k - 1))) (b := (r.rc.map (· + 1)).map (· + (k - 1))) (L := t.rc) (off := off) (x := 1 + (k - 1)) (by rw [hl, hr]; exact ih)
    rw [hl, hr] at this
    rw [this, List.map_map]
    refine List.map_congr_left fun a _ => ?_
    have := (sub_le h).2.1
    simp only [Function.comp]
    omega
theorem sub_par {t : T} {off k : Nat} {s : T} {p : Int} (h : Sub t off s k p) : (t.parOf.drop off).take s.size = s.par (off : Int) p := by
  induction h with
  | root => simp only [T.parOf]; rw [List.drop_zero, List.take_of_length_le (by rw [T.par_len]; omega)]; rfl
  | @left off k p l r h ih =>
    simp only [T.par] at ih
    have hl := T.par_len l (off : Int) ((off : Int) + l.size)
    have hr := T.par_len r ((off : Int) + l.size + 1) ((off : Int) + l.size)
    have := slice_left (a := l.par (off : Int) ((off : Int) + l.size)) (b := r.par ((off : Int) + l.size + 1) ((off : Int) + l.size)) (L := t.parOf) (off := off) (x := p) (by rw [hl, hr]; exact ih)
    rw [hl] at this
    rw [this, Int.natCast_add]
  | @right off k p l r h ih =>
    simp only [T.par] at ih
    have hl := T.par_len l (off : Int) ((off : Int) + l.size)
    have hr := T.par_len r ((off : Int) + l.size + 1) ((off : Int) + l.size)
    have := slice_right (a := l.par (off : Int) ((off : Int) + l.size)) (b := r.par ((off : Int) + l.size + 1) ((off : Int) + l.size)) (L := t.parOf) (off := off) (x := p) (by rw [hl, hr]; exact ih)
    rw [hl, hr] at this
    rw [this]
    simp only [Int.natCast_add]
    rfl
theorem sub_root {t : T} {off k : Nat} {l r : T} {p : Int} (h : Sub t off (.node l r) k p) : t.parOf[off + l.size]? = some p := by
  have ih := sub_par h
  simp only [T.par] at ih
  have hl := T.par_len l (off : Int) ((off : Int) + l.size)
  have hr := T.par_len r ((off : Int) + l.size + 1) ((off : Int) + l.size)
  have := slice_mid (a := l.par (off : Int) ((off : Int) + l.size)) (b := r.par ((off : Int) + l.size + 1) ((off : Int) + l.size)) (L := t.parOf) (off := off) (x := p) (by rw [hl, hr]; exact ih)
  rw [hl] at this
  exact this
/-- the parents of a subtree: the root's alone lies outside -/
theorem par_in : ∀ (s : T) (off p : Int) (i : Nat) (q : Int), (s.par off p)[i]? = some q → (∃ l r, s = .node l r ∧ i = l.size ∧ q = p) ∨ (off ≤ q ∧ q < off + s.size ∧ ∀ l r, s = .node l r → i ≠ l.size)
  | .nil, _, _, _, _, h => by simp [T.par] at h
  | .node l r, off, p, i, q, h => by
    simp only [T.par] at h
    have hl := T.par_len l off (off + l.size)
    by_cases h1 : i < l.size
    · rw [List.getElem?_append_left (by omega)] at h
      refine .inr ?_
      rcases par_in l off (off + l.size) i q h with ⟨a, b, e, e2, e3⟩ | ⟨h2, h3, _⟩
      · refine ⟨by omega, by simp only [T.size]; omega, fun l' r' e' => by cases e'; omega⟩
      · refine ⟨by omega, by simp only [T.size]; omega, fun l' r' e' => by cases e'; omega⟩
    · rw [List.getElem?_append_right (by omega), hl] at h
      by_cases h2 : i = l.size
      · subst h2
        rw [Nat.sub_self] at h
        have : p = q := by simpa using h
        exact .inl ⟨l, r, rfl, rfl, this.symm⟩
      · obtain ⟨j, e⟩ : ∃ j, i - l.size = j + 1 := ⟨i - l.size - 1, by omega⟩
        rw [e, List.getElem?_cons_succ] at h
        refine .inr ?_
        rcases par_in r (off + l.size + 1) (off + l.size) j q h with ⟨a, b, e4, e2, e3⟩ | ⟨h4, h3, _⟩
        · refine ⟨by omega, by simp only [T.size]; omega, fun l' r' e' => by cases e'; omega⟩
        · refine ⟨by omega, by simp only [T.size]; omega, fun l' r' e' => by cases e'; omega⟩
theorem rc_pos : ∀ (s : T) (i v : Nat), s.rc[i]? = some v → 1 ≤ v
  | .nil, _, _, h => by simp [T.rc] at h
  | .node l r, i, v, h => by
    simp only [T.rc] at h
    by_cases h1 : i < l.size
    · rw [List.getElem?_append_left (by rw [T.rc_len]; exact h1)] at h
      exact rc_pos l i v h
    · rw [List.getElem?_append_right (by rw [T.rc_len]; omega), T.rc_len] at h
      rcases Nat.eq_zero_or_pos (i - l.size) with e | e
      · rw [e] at h; simp at h; omega
      · obtain ⟨j, e⟩ : ∃ j, i - l.size = j + 1 := ⟨i - l.size - 1, by omega⟩
        rw [e, List.getElem?_cons_succ, List.getElem?_map] at h
        cases h2 : r.rc[j]? with
        | none => rw [h2] at h; cases h
        | some u => rw [h2] at h; simp at h; omega
theorem rc_one {l r : T} {i : Nat} (h : (T.node l r).rc[i]? = some 1) : i ≤ l.size := by
  simp only [T.rc] at h
  by_cases h1 : i ≤ l.size
  · exact h1
  · rw [List.getElem?_append_right (by rw [T.rc_len]; omega), T.rc_len] at h
    obtain ⟨j, e⟩ : ∃ j, i - l.size = j + 1 := ⟨i - l.size - 1, by omega⟩
    rw [e, List.getElem?_cons_succ, List.getElem?_map] at h
    cases h2 : r.rc[j]? with
    | none => rw [h2] at h; cases h
    | some u =>
      have := rc_pos r j u h2
      rw [h2] at h; simp at h; omega
theorem rc_root (l r : T) : (T.node l r).rc[l.size]? = some 1 := by
  simp only [T.rc]
  rw [List.getElem?_append_right (by rw [T.rc_len]; exact Nat.le_refl _), T.rc_len, Nat.sub_self]; rfl
theorem sub_rc_at {t : T} {off k : Nat} {s : T} {p : Int} (h : Sub t off s k p) {i : Nat} (hi : i < s.size) : ∃ v, s.rc[i]? = some v ∧ t.rc[off + i]? = some (v + (k - 1)) := by
  have e := congrArg (fun l : List Nat => l[i]?) (sub_rc h)
  simp only [List.getElem?_take, List.getElem?_drop, List.getElem?_map] at e
  rw [if_pos hi] at e
  have hv := List.getElem?_eq_getElem (show i < s.rc.length by rw [T.rc_len]; exact hi)
  rw [hv] at e
  exact ⟨_, hv, e⟩
theorem sub_par_at {t : T} {off k : Nat} {s : T} {p : Int} (h : Sub t off s k p) {i : Nat} (hi : i < s.size) : ∃ q, (s.par (off : Int) p)[i]? = some q ∧ t.parOf[off + i]? = some q := by
  have e := congrArg (fun l : List Int => l[i]?) (sub_par h)
  simp only [List.getElem?_take, List.getElem?_drop] at e
  rw [if_pos hi] at e
  have hv := List.getElem?_eq_getElem (show i < (s.par (off : Int) p).length by rw [T.par_len]; exact hi)
  rw [hv] at e
  exact ⟨_, hv, e⟩
theorem filter_one {f : Nat → Bool} {n c : Nat} (hc : c < n) (h1 : f c = true) (h2 : ∀ i, i < n → f i = true → i = c) : (List.range n).filter f = [c] := by
  induction n with
  | zero => omega
  | succ n ih =>
    rw [List.range_succ, List.filter_append]
    by_cases e : c = n
    · subst e
      have e0 : (List.range c).filter f = [] := List.filter_eq_nil_iff.mpr fun i hi hf => by
        have := List.mem_range.mp hi
        have := h2 i (by omega) hf
        omega
      rw [e0]; simp [h1]
    · rw [ih (by omega) fun i hi hf => h2 i (by omega) hf]
      have : f n = false := by
        cases hf : f n with
        | false => rfl
        | true => exact absurd (h2 n (by omega) hf) (by omega)
      simp [this]
/-- the work of a list of subtrees -/
def todo : List (Nat × T × Nat × Int) → Nat
  | [] => 0
  | x :: r => 2 * x.2.1.size + 1 + todo r
theorem todo_app : ∀ a b, todo (a ++ b) = todo a + todo b
  | [], b => by simp [todo]
  | x :: r, b => by simp [todo, todo_app r b]; omega
theorem len_todo : ∀ L, L.length ≤ todo L
  | [] => Nat.le_refl _
  | x :: r => by have := len_todo r; simp [todo]; omega

/-! ### one step up -/
theorem getD_app_l {a b : List Nat} {i : Nat} (h : i < a.length) : (a ++ b).getD i 0 = a.getD i 0 := by
  simp only [List.getD_eq_getElem?_getD, List.getElem?_append_left h]
theorem getD_app_r {a b : List Nat} {i : Nat} (h : a.length ≤ i) : (a ++ b).getD i 0 = b.getD (i - a.length) 0 := by
  simp only [List.getD_eq_getElem?_getD, List.getElem?_append_right h]
theorem getD_map1 {a : List Nat} {i : Nat} (h : i < a.length) : (a.map (· + 1)).getD i 0 = a.getD i 0 + 1 := by
  simp only [List.getD_eq_getElem?_getD, List.getElem?_map, List.getElem?_eq_getElem h]; rfl
theorem wr_l {l r : T} {i : Nat} (h : i < l.size) : (T.node l r).wr.getD i 0 = l.wr.getD i 0 + 1 := by
  simp only [T.wr]
  rw [getD_app_l (by rw [List.length_map, T.wr_len]; exact h), getD_map1 (by rw [T.wr_len]; exact h)]
theorem wr_m {l r : T} : (T.node l r).wr.getD l.size 0 = 1 := by
  simp only [T.wr]
  rw [getD_app_r (by rw [List.length_map, T.wr_len]; exact Nat.le_refl _), List.length_map, T.wr_len, Nat.sub_self]; rfl
theorem wr_r {l r : T} {j : Nat} : (T.node l r).wr.getD (l.size + 1 + j) 0 = r.wr.getD j 0 := by
  simp only [T.wr]
  rw [getD_app_r (by rw [List.length_map, T.wr_len]; omega), List.length_map, T.wr_len, show l.size + 1 + j - l.size = j + 1 by omega, List.getD_cons_succ]
theorem rc_l {l r : T} {i : Nat} (h : i < l.size) : (T.node l r).rc.getD i 0 = l.rc.getD i 0 := by
  simp only [T.rc]
  rw [getD_app_l (by rw [T.rc_len]; exact h)]
theorem rc_m {l r : T} : (T.node l r).rc.getD l.size 0 = 1 := by
  simp only [T.rc]
  rw [getD_app_r (by rw [T.rc_len]; exact Nat.le_refl _), T.rc_len, Nat.sub_self]; rfl
theorem rc_r {l r : T} {j : Nat} (h : j < r.size) : (T.node l r).rc.getD (l.size + 1 + j) 0 = r.rc.getD j 0 + 1 := by
  simp only [T.rc]
  rw [getD_app_r (by rw [T.rc_len]; omega), T.rc_len, show l.size + 1 + j - l.size = j + 1 by omega, List.getD_cons_succ, getD_map1 (by rw [T.rc_len]; exact h)]
theorem up : ∀ (s : T) (off p : Int) (i : Nat) (q : Int), (s.par off p)[i]? = some q →
    (q = p ∧ s.wr.getD i 0 = 1 ∧ s.rc.getD i 0 = 1) ∨
    ∃ j : Nat, q = off + j ∧ j < s.size ∧ j ≠ i ∧ (i < j → s.wr.getD i 0 = s.wr.getD j 0 + 1 ∧ s.rc.getD i 0 = s.rc.getD j 0) ∧ (j < i → s.wr.getD i 0 = s.wr.getD j 0 ∧ s.rc.getD i 0 = s.rc.getD j 0 + 1)
  | .nil, _, _, _, _, h => by simp [T.par] at h
  | .node l r, off, p, i, q, h => by
    simp only [T.par] at h
    have hl := T.par_len l off (off + l.size)
    by_cases h1 : i < l.size
    · rw [List.getElem?_append_left (by omega)] at h
      refine .inr ?_
      rcases up l off (off + l.size) i q h with ⟨e, e1, e2⟩ | ⟨j, e, hj, hne, c1, c2⟩
      · exact ⟨l.size, e, by simp only [T.size]; omega, by omega, fun _ => ⟨by rw [wr_l h1, wr_m, e1], by rw [rc_l h1, rc_m, e2]⟩, fun z => by omega⟩
      · exact ⟨j, e, by simp only [T.size]; omega, hne, fun z => ⟨by rw [wr_l h1, wr_l hj, (c1 z).1], by rw [rc_l h1, rc_l hj, (c1 z).2]⟩, fun z => ⟨by rw [wr_l h1, wr_l hj, (c2 z).1], by rw [rc_l h1, rc_l hj, (c2 z).2]⟩⟩
    · rw [List.getElem?_append_right (by omega), hl] at h
      by_cases h2 : i = l.size
      · subst h2
        rw [Nat.sub_self] at h
        have : p = q := by simpa using h
        exact .inl ⟨this.symm, wr_m, rc_m⟩
      · obtain ⟨k, e⟩ : ∃ k, i = l.size + 1 + k := ⟨i - l.size - 1, by omega⟩
        subst e
        rw [show l.size + 1 + k - l.size = k + 1 by omega, List.getElem?_cons_succ] at h
        have hk : k < r.size := by
          have := (List.getElem?_eq_some_iff.mp h).1
          rw [T.par_len] at this; exact this
        refine .inr ?_
        rcases up r (off + l.size + 1) (off + l.size) k q h with ⟨e, e1, e2⟩ | ⟨j, e, hj, hne, c1, c2⟩
        · exact ⟨l.size, e, by simp only [T.size]; omega, by omega, fun z => by omega, fun _ => ⟨by rw [wr_r, wr_m, e1], by rw [rc_r hk, rc_m, e2]⟩⟩
        · exact ⟨l.size + 1 + j, by rw [e]; omega, by simp only [T.size]; omega, by omega, fun z => ⟨by rw [wr_r, wr_r, (c1 (by omega)).1], by rw [rc_r hk, rc_r hj, (c1 (by omega)).2]⟩, fun z => ⟨by rw [wr_r, wr_r, (c2 (by omega)).1], by rw [rc_r hk, rc_r hj, (c2 (by omega)).2]⟩⟩
theorem wr_pos {t : T} {i : Nat} (h : i < t.size) : 1 ≤ t.wr.getD i 0 := by
  induction t generalizing i with
  | nil => simp [T.size] at h
  | node l r ihl ihr =>
    by_cases h1 : i < l.size
    · rw [wr_l h1]; omega
    · by_cases h2 : i = l.size
      · subst h2; rw [wr_m]; exact Nat.le_refl _
      · obtain ⟨k, e⟩ : ∃ k, i = l.size + 1 + k := ⟨i - l.size - 1, by omega⟩
        subst e
        rw [wr_r]; exact ihr (by simp only [T.size] at h; omega)
theorem rc_posD {t : T} {i : Nat} (h : i < t.size) : 1 ≤ t.rc.getD i 0 := by
  have := List.getElem?_eq_getElem (show i < t.rc.length by rw [T.rc_len]; exact h)
  rw [List.getD_eq_getElem?_getD, this]
  exact rc_pos t i _ this

/-! ### mirrors -/
def mirN (N : Int) (q : Int) : Int := if q = -1 then -1 else N - 1 - q
theorem mir_size : ∀ t : T, t.mir.size = t.size
  | .nil => rfl
  | .node l r => by simp [T.mir, T.size, mir_size l, mir_size r]; omega
theorem mir_par : ∀ (s : T) (N off p : Int), 0 ≤ off → ((s.par off p).reverse).map (mirN N) = s.mir.par (N - off - s.size) (mirN N p)
  | .nil, _, _, _, _ => rfl
  | .node l r, N, off, p, h => by
    simp only [T.par, T.mir, List.reverse_append, List.reverse_cons, List.map_append, List.map_cons, List.map_nil]
    rw [mir_par l N off (off + l.size) h, mir_par r N (off + l.size + 1) (off + l.size) (by omega), mir_size]
    have e1 : mirN N (off + l.size) = N - 1 - (off + l.size) := by unfold mirN; rw [if_neg (by omega)]
    rw [e1]
    have e2 : N - off - ((T.node l r).size : Int) = N - (off + l.size + 1) - r.size := by simp only [T.size]; omega
    rw [e2]
    have e3 : N - (off + ↑l.size + 1) - ↑r.size + ↑r.size = N - 1 - (off + ↑l.size) := by omega
    rw [e3, show N - 1 - (off + (l.size : Int)) + 1 = N - off - l.size by omega]
    simp
theorem mir_parOf (t : T) : t.mir.parOf = (t.parOf.reverse).map (mirN t.size) := by
  unfold T.parOf
  rw [mir_par t t.size 0 (-1) (by omega)]
  rw [show ((t.size : Int) - 0 - t.size) = 0 by omega]
  rfl
theorem mir_wr : ∀ t : T, t.mir.wr = t.rc.reverse
  | .nil => rfl
  | .node l r => by simp [T.mir, T.wr, T.rc, mir_wr l, mir_wr r]
theorem mir_rc : ∀ t : T, t.mir.rc = t.wr.reverse
  | .nil => rfl
  | .node l r => by simp [T.mir, T.wr, T.rc, mir_rc l, mir_rc r]
theorem mir_mir : ∀ t : T, t.mir.mir = t
  | .nil => rfl
  | .node l r => by simp [T.mir, mir_mir l, mir_mir r]

/-! ### parents of a joined tree -/
theorem par_below {N : Int} : ∀ (s : T) (off p : Int), 0 ≤ off → (s.par off p).map (fun q => if q = -1 then N else q) = s.par off (if p = -1 then N else p)
  | .nil, _, _, _ => rfl
  | .node l r, off, p, h => by
    simp only [T.par, List.map_append, List.map_cons]
    rw [par_below l off _ h, par_below r (off + l.size + 1) _ (by omega), if_neg (by omega : ¬ off + (l.size : Int) = -1)]
theorem par_beyond {N : Int} : ∀ (s : T) (off p : Int), 0 ≤ off → (s.par off p).map (fun q => if q = -1 then N else q + N + 1) = s.par (off + N + 1) (if p = -1 then N else p + N + 1)
  | .nil, _, _, _ => rfl
  | .node l r, off, p, h => by
    simp only [T.par, List.map_append, List.map_cons]
    rw [par_beyond l off _ h, par_beyond r (off + l.size + 1) _ (by omega), if_neg (by omega : ¬ off + (l.size : Int) = -1)]
    have e1 : off + (l.size : Int) + N + 1 = off + N + 1 + l.size := by omega
    have e2 : off + (l.size : Int) + 1 + N + 1 = off + N + 1 + l.size + 1 := by omega
    rw [e1, e2]
theorem parOf_node (s u : T) : (T.node s u).parOf = s.parOf.map (fun q => if q = -1 then (s.size : Int) else q) ++ [-1] ++ u.parOf.map (fun q => if q = -1 then (s.size : Int) else q + s.size + 1) := by
  unfold T.parOf
  rw [par_below s 0 (-1) (by omega), par_beyond u 0 (-1) (by omega)]
  simp only [T.par]
  simp
theorem parOf_root (s u : T) : (T.node s u).parOf[s.size]? = some (-1) := by
  have := sub_root (t := T.node s u) .root
  simpa using this
theorem parOf_first {s u : T} {m : Nat} (h : m < s.size) : (T.node s u).parOf[m]? ≠ some (-1) := fun e => by
  rcases par_in _ _ _ _ _ e with ⟨l, r, e1, e2, _⟩ | ⟨h1, _, _⟩
  · cases e1; omega
  · omega

/-! ### runs as lists of flushes -/
theorem stk_pair : ∀ (t : T) (off j : Nat), j + 1 ≤ t.runs → (t.stk off)[t.runs - (j + 1)]? = some (off + t.start (j + 1), off + t.start j)
  | .nil, _, _, h => by simp [T.runs] at h
  | .node l r, off, j, h => by
    by_cases e : j = r.runs
    · subst e
      have e1 : (T.node l r).runs = r.runs + 1 := by simp [T.runs]; omega
      rw [e1, Nat.sub_self, ← e1, T.start_eq, T.start_node (Nat.le_refl _), T.start_eq]
      rfl
    · have h1 : j + 1 ≤ r.runs := by simp [T.runs] at h; omega
      have e1 : (T.node l r).runs - (j + 1) = (r.runs - (j + 1)) + 1 := by simp [T.runs]; omega
      rw [e1, T.start_node h1, T.start_node (by omega)]
      simp only [T.stk, List.getElem?_cons_succ]
      rw [stk_pair r (off + l.size + 1) j h1]
      congr 2 <;> omega
theorem start_anti : ∀ (t : T) (j : Nat), j + 1 ≤ t.runs → t.start (j + 1) < t.start j
  | .nil, _, h => by simp [T.runs] at h
  | .node l r, j, h => by
    by_cases e : j = r.runs
    · subst e
      have e1 : (T.node l r).runs = r.runs + 1 := by simp [T.runs]; omega
      rw [← e1, T.start_eq, T.start_node (Nat.le_refl _), T.start_eq]
      omega
    · have h1 : j + 1 ≤ r.runs := by simp [T.runs] at h; omega
      rw [T.start_node h1, T.start_node (by omega)]
      have := start_anti r j h1
      omega
/-- the flushes of [a, b) -/
def seg (a b : Nat) : List Nat := List.range' a (b - a)
theorem seg_app {a b c : Nat} (h1 : a ≤ b) (h2 : b ≤ c) : seg a b ++ seg b c = seg a c := by
  unfold seg
  have := List.range'_append_1 (s := a) (m := b - a) (n := c - b)
  rw [show a + (b - a) = b by omega, show b - a + (c - b) = c - a by omega] at this
  exact this
theorem seg_one (a : Nat) : seg a (a + 1) = [a] := by
  unfold seg
  rw [show a + 1 - a = 1 by omega]; rfl
theorem seg_nil (a : Nat) : seg a a = [] := by unfold seg; rw [Nat.sub_self]; rfl
theorem seg_len (a b : Nat) : (seg a b).length = b - a := by unfold seg; rw [List.length_range']
theorem seg_at {a b k : Nat} (h : a + k < b) : (seg a b)[k]? = some (a + k) := by
  unfold seg
  rw [List.getElem?_range' (by omega)]
  simp
theorem stk_take_succ {t : T} {j : Nat} (off : Nat) (h : j + 1 ≤ t.runs) : (t.stk off).take (t.runs - j) = (t.stk off).take (t.runs - (j + 1)) ++ [(off + t.start (j + 1), off + t.start j)] := by
  rw [show t.runs - j = (t.runs - (j + 1)) + 1 by omega, List.take_add_one, stk_pair t off j h]; rfl
/-- adjacent, from off on -/
theorem stk_starts : ∀ (t : T) (off : Nat), (t.stk off).map (·.1) = (off :: (t.stk off).map (·.2)).dropLast
  | .nil, _ => rfl
  | .node l r, off => by
    have ih := stk_starts r (off + l.size + 1)
    simp only [T.stk, List.map_cons]
    rw [ih]; rfl
theorem stk_stops : ∀ (t : T) (off : Nat), (off :: (t.stk off).map (·.2)).getLast? = some (off + t.size)
  | .nil, off => by simp [T.stk, T.size]
  | .node l r, off => by
    have ih := stk_stops r (off + l.size + 1)
    simp only [T.stk, List.map_cons, T.size]
    rw [List.getLast?_cons_cons, ih]
    congr 1; omega
theorem stk_lt : ∀ (t : T) (off : Nat) (p : Nat × Nat), p ∈ t.stk off → off ≤ p.1 ∧ p.1 < p.2 ∧ p.2 ≤ off + t.size
  | .nil, _, _, h => by simp [T.stk] at h
  | .node l r, off, p, h => by
    simp only [T.stk] at h
    rcases List.mem_cons.mp h with rfl | h
    · simp only [T.size]; omega
    · have := stk_lt r _ p h
      simp only [T.size]; omega
end MB

set_option maxHeartbeats 4000000
namespace MB
open PySem PySem.Spec PyProof.Rows L2

/-! ### great powers -/
def CPowW (i j : Int) : Prop := 0 ≤ j ∧ (Builtin.Int.intBits i : Int) * j ≤ 2 ^ 27
theorem op_powW {X : Cx} : OpR X (binaryOp .Pow) (rI CPowW fun i j => .int (i ^ j.toNat)) := opI fun _ _ _ _ _ _ _ hc q => pow_int hc.1 hc.2 q

/-! ### xs[i] op= e -/
theorem get_list {X : Cx} : PGet X (rIxL X.K) := by
  intro pins s σ H x y v u Q I rx ry h
  obtain ⟨p, xs, i, z, rfl, rfl, hq, he, q⟩ := h
  cases rx
  obtain ⟨t, rfl⟩ := ry
  obtain ⟨its, r, pl, hz⟩ := I.list hq
  obtain ⟨j, h1, h2, h3, h4, h5⟩ := atI_get he
  obtain ⟨w, ew, rw'⟩ := r.get h2
  have hl := r.length
  have hn := line63
  have fin : EP X pins σ Q w s := ⟨z, H, I, rw', q⟩
  by_cases h0 : 0 ≤ i
  · have hj : i.toNat = j := by
      rw [seqIndex_of h0 h5] at h1
      exact Option.some.inj h1
    exact getItem_listL pl.isList h0 (by omega) (by rw [hj]; exact ew) fin
  · have hj : (i + (its.toArray.size : Int)).toNat = j := by
      rw [seqIndex_neg (by omega) h4] at h1
      rw [List.size_toArray, ← hl]
      exact Option.some.inj h1
    exact wpAny_getItem_list_neg pl.isList (by omega) (by rw [List.size_toArray] <;> omega) (by omega) (by rw [hj]; simpa using ew) fin

/-! ### sum of a tuple of ints -/
theorem ints_at : ∀ {ns : List Int} {its : List Value}, Vals (ns.map V.int) its → ∀ (i : Nat) (v : Value), its[i]? = some v → ∃ t, v = .int (ns.getD i 0) t
  | [], _, .nil, i, v, h => by simp at h
  | n :: ns, u :: us, .cons r rr, 0, v, h => by
    obtain ⟨t, rfl⟩ := r
    simp at h
    exact ⟨t, by simp [h]⟩
  | n :: ns, u :: us, .cons r rr, i + 1, v, h => by
    have := ints_at rr i v (by simpa using h)
    simpa using this
theorem preSum_getD (ns : List Int) : ∀ k, k ≤ ns.length → preSum (fun i => ns.getD i 0) k = (ns.take k).sum
  | 0, _ => by simp [preSum]
  | k + 1, h => by
    have e : ns[k]? = some (ns.getD k 0) := by
      rw [List.getElem?_eq_getElem (by omega), List.getD_eq_getElem?_getD, List.getElem?_eq_getElem (by omega)]
      rfl
    rw [preSum, preSum_getD ns k (by omega), L2.sum_take e]
def rSumT (K : PySem.W.Frag) : List V → Hp → VK → Prop := fun xs H Q => ∃ (a : Addr) (ns : List Int), xs = [V.ref a] ∧ SqT K H a (ns.map V.int) ∧ Q (.int ns.sum) H
theorem cr_sumT {X : Cx} (hc : X.calm = true) : CallR X (.builtin "sum") (rSumT X.K) := by
  intro pins s σ H vs us Q I r h
  obtain ⟨a, ns, rfl, hs, q⟩ := h
  obtain ⟨its, rv, hl, _⟩ := I.tuple hs
  rw [Vals.ref1 r]
  have hT : s.heap.IsTuple a its.toArray := hl
  have hlt : a < s.heap.objs.size := by obtain ⟨_, e, _⟩ := hl; exact Heap.lt_size e
  refine PySem.call_sum_walkG (wpAny_pyIter_tuple hT ?_)
  refine ⟨s.heap.objs.size, [s.heap.objs.size, a], [s.heap.objs.size], its.toArray.size, _, _, fun i => ns.getD i 0, rfl, Walks.tuple (A := X.A.in1) (I.ok.hd hc) _ a (Nat.ne_of_lt hlt) its.toArray, ⟨⟨_, Heap.get?_push_size _ rfl, rfl, rfl⟩, hT.at fun o e => Heap.get?_push_of_some _ e⟩, fun b hb => ?_, fun i v hv => ints_at rv i v (by simpa using hv), fun h' tk t' hk => ?_⟩
  · show b < (s.heap.push _).objs.size
    rw [Heap.size_push]
    have e : b = s.heap.objs.size ∨ b = a := by simpa using hb
    rcases e with e | e
    · rw [e]; exact Nat.lt_succ_self _
    · rw [e]; exact Nat.lt_succ_of_lt hlt
  · have el : its.toArray.size = ns.length := by rw [List.size_toArray, ← rv.length, List.length_map]
    rw [el, preSum_getD ns _ (Nat.le_refl _), List.take_length]
    refine ⟨.int ns.sum, H, I.kept fun b o e => hk b o ?_ (Heap.get?_push_of_some _ e), ⟨_, rfl⟩, q⟩
    have := Heap.lt_size e
    simp only [List.mem_singleton]
    exact Nat.ne_of_lt this

/-! ### enumerate(tuple) -/
set_option maxHeartbeats 4000000 in
theorem meets_enumerate_newT (l : Addr) (items : Array Value) (n : Nat) (dct : Option Addr) (sl : Array (Option Value)) :
    Meets (Builtin.«enumerate.__new__» ⟨[.type "enumerate", .ref l], []⟩) (fun _ R s => s.heap.get? l = some { cls := .type "tuple", dict := dct, data := .seq items n, slots := sl } ∧
      R (.ok (.ret (.ref (s.heap.push { cls := .type "tuple_iterator", data := .fields #[.ref l, .int 0 0] }).objs.size)))
        { s with heap := (s.heap.push { cls := .type "tuple_iterator", data := .fields #[.ref l, .int 0 0] }).push { cls := .type "enumerate", data := .fields #[.none, .bool false, .ref s.heap.objs.size, rawInt 0, .none, .none] } }) :=
  .of_wp fun prog w A R s h => by
    obtain ⟨hp, g, d, tk, os⟩ := s; obtain ⟨hl, h⟩ := h
    have hsub := sub_enumerate
    have hL : Heap.IsTuple (Shared.heap ⟨hp, g, d, tk, os⟩) l items := ⟨_, hl, rfl, n, rfl⟩
    wp_walk using AutoSeq1.wpAny_loadPart' hl
    refine wpAny_stack_any fun st => wpAny_pure ?_
    split
    · rename_i c _ _ _ _ _
      cases (c == Value.type "enumerate")
      · wp_walk using AutoSeq1.wpAny_loadPart' hl, wpAny_pyIter_tuple hL
        exact ⟨_, rfl, h⟩
      · wp_walk using AutoSeq1.wpAny_loadPart' hl, wpAny_pyIter_tuple hL
        exact ⟨_, rfl, h⟩
    · wp_walk using AutoSeq1.wpAny_loadPart' hl, wpAny_pyIter_tuple hL
      exact ⟨_, rfl, h⟩
section
variable {prog : Program} {w : World} {A : Around} {E : Value → Shared → Prop} {s : Shared}
theorem call_enumerate_tuple {l : Addr} {items : Array Value} {Q : Value → Shared → Prop} (hL : s.heap.IsTuple l items)
    (h : ∀ h', IsEnum h' (s.heap.objs.size + 1) s.heap.objs.size 0 .none → h'.IsTupleIter s.heap.objs.size l 0 → h'.objs.size = s.heap.objs.size + 2 →
      (∀ b o, s.heap.get? b = some o → h'.get? b = some o) → Q (.ref (s.heap.objs.size + 1)) { s with heap := h' }) :
    wpAny (model prog w) A (call (.type "enumerate") [.ref l]) Q E s := by
  obtain ⟨⟨c, dct, dt, sl⟩, hl, hc, n, hd⟩ := hL
  replace hc : c = .type "tuple" := hc
  replace hd : dt = .seq items n := hd
  subst hc hd
  refine callType_new F.called_enumerate (by decide) (F.typeCall_enumerate_1 _) (F.newCall_enumerate_1 _) (fun obj => F.args_object_init_2 obj _) F.entry_enumerate_new
    (meets_enumerate_newT l items n dct sl) ⟨hl, ?_⟩
  have hz : (s.heap.push { cls := .type "tuple_iterator", data := .fields #[.ref l, .int 0 0] }).objs.size = s.heap.objs.size + 1 := Heap.size_push ..
  show _ ∧ _
  rw [hz]
  have he : IsEnum ((s.heap.push { cls := .type "tuple_iterator", data := .fields #[.ref l, .int 0 0] }).push
      { cls := .type "enumerate", data := .fields #[.none, .bool false, .ref s.heap.objs.size, rawInt 0, .none, .none] }) (s.heap.objs.size + 1) s.heap.objs.size 0 .none := by
    have := Heap.get?_push_size (s.heap.push { cls := .type "tuple_iterator", data := .fields #[.ref l, .int 0 0] })
      (o := { cls := .type "enumerate", data := .fields #[.none, .bool false, .ref s.heap.objs.size, rawInt 0, .none, .none] }) rfl
    rw [hz] at this; exact this
  refine ⟨⟨_, he, rfl⟩, h _ he ⟨_, Heap.get?_push_of_some _ (Heap.get?_push_size _ rfl), rfl, rfl⟩ (by rw [Heap.size_push, hz]) fun b o x => Heap.get?_push_of_some _ (Heap.get?_push_of_some _ x)⟩
end
def IteT (K : PySem.W.Frag) (a : Addr) : It :=
  ⟨fun i H => ∃ (xs : List V) (x : V), SqT K H a xs ∧ xs[i]? = some x, fun i H v H' => ∃ T x, v = .ref T ∧ H T = none ∧ H' = upd H T (.tup [.int (i : Nat), x]) ∧ ∀ xs, SqT K H a xs → xs[i]? = some x, fun i H => ∃ xs : List V, SqT K H a xs ∧ xs.length = i⟩
theorem tup_ne {h : Heap} {a it : Addr} {items : Array Value} {i : Nat} (h1 : h.IsTuple a items) (h2 : h.IsTupleIter it a i) : a ≠ it := fun e => by
  obtain ⟨o, ho, hc, n, hd⟩ := h1
  obtain ⟨o', ho', hc', hd'⟩ := h2
  rw [e] at ho
  rw [ho] at ho'
  cases ho'
  rw [hd] at hd'
  cases hd'
theorem turn_enumT {P : Program} {w : World} {K : PySem.W.Frag} {elts : List Expr} {kk : Nat} {tpos : Pos} (a e it : Addr) (hae : a ≠ e) :
    Turn P w K (.Tuple elts kk tpos) (IteT K a) [e, it] e (fun i h => (∃ old, IsEnum h e it ((i : Nat) : Int) old) ∧ h.IsTupleIter it a i ∧ e ≠ it) where
  mem := by simp
  obj := fun i h st b hb => by
    obtain ⟨⟨old, he⟩, ⟨o, ho, hc, hd⟩, _⟩ := st
    have e' : b = e ∨ b = it := by simpa using hb
    rcases e' with z | z
    · rw [z]; exact ⟨_, he, fun v q => nomatch q⟩
    · rw [z]; exact ⟨o, ho, fun v q => by rw [hd] at q; cases q⟩
  keep := fun i h h' st k => let ⟨⟨old, he⟩, hi, hne⟩ := st; ⟨⟨old, k e (by simp) _ he⟩, hi.at fun o q => k it (by simp) o q, hne⟩
  item := by
    intro X hP hw hK hc i pins s σ H E I hf st hg
    subst hP hw hK
    obtain ⟨⟨old, he⟩, hit, hne⟩ := st
    obtain ⟨xs, x, hq, hx⟩ := hg
    obtain ⟨its, rv, p, hz⟩ := I.tuple hq
    have p : s.heap.IsTuple a its.toArray := p
    have hat : a ≠ it := tup_ne p hit
    have hel : e < s.heap.objs.size := Heap.lt_size he
    have hil : it < s.heap.objs.size := by obtain ⟨_, q, _⟩ := hit; exact Heap.lt_size q
    have hlen : i < its.toArray.size := by
      rw [List.size_toArray, ← rv.length]; exact (List.getElem?_eq_some_iff.mp hx).1
    refine wpAny_pyNext_enum_itemD (Draws.tuple (prog := X.prog) (w := X.w) (A := X.A.in1) (I.ok.hd hc) it a hat its.toArray) he ⟨hit, p⟩ hlen hne (by simp; exact ⟨hne, fun z => hae z.symm⟩) fun u h' tk hu ho hit' hT hsz hk => ?_
    obtain ⟨u', hu', ru'⟩ := rv.get hx
    have eu : u = u' := by
      have h1 : its[i]? = some u := by simpa using hu
      rw [h1] at hu'; exact Option.some.inj hu'
    subst eu
    refine ⟨_, rfl, wpAny_letOwnedTupleGo_enum (s := { s with heap := h', toks := tk + 1 }) ho fun h'' he' sb => ?_⟩
    have hT2 : h''.get? s.heap.objs.size = some { cls := .type "tuple", data := .seq #[.int i tk, u] } := (sb.2 _ (Nat.ne_of_gt hel)).trans hT
    have new : ObjOk X.prog X.w (upd H s.heap.objs.size (.tup [.int (i : Nat), x])) h'' s.heap.objs.size (.tup [.int (i : Nat), x]) :=
      ⟨by show 2 ≤ sizeLine; decide, [.int i tk, u], .cons ⟨_, rfl⟩ (.cons ru' .nil), ⟨_, hT2, rfl, _, rfl⟩⟩
    have I1 : Inv X pins σ (upd H s.heap.objs.size (.tup [.int (i : Nat), x])) { s with heap := h'', toks := tk + 1 } :=
      I.turnedNew (ch := [e, it]) (fun b ob hb q => (sb.2 b (fun z => hb (by simp [z]))).trans (hk b ob (fun z => hb (by simp [z])) (fun z => hb (by simp [z])) q)) hf (Nat.le_refl _) new
    refine ⟨.ref s.heap.objs.size, _, I1, rfl, ⟨_, x, rfl, I.hok.fresh (Nat.le_refl _), rfl, fun ys hy => by rw [I.tuple_inj hy hq]; exact hx⟩, ⟨⟨u, ?_⟩, hit'.1.at fun o q => (sb.2 it (Ne.symm hne)).trans q, hne⟩, fun b hb => ?_⟩
    · have e1 : ((i + 1 : Nat) : Int) = (i : Int) + 1 := by omega
      rw [e1]; exact he'
    · have hb' : b < s.heap.objs.size := by
        have e' : b = e ∨ b = it := by simpa using hb
        rcases e' with z | z
        · rw [z]; exact hel
        · rw [z]; exact hil
      rw [upd_ne (Nat.ne_of_lt hb')]
      exact (hf b hb).1
  done := by
    intro X hP hw hK hc i pins s σ H E I hf st hg
    subst hP hw hK
    obtain ⟨⟨old, he⟩, hit, hne⟩ := st
    obtain ⟨xs, hq, hx⟩ := hg
    obtain ⟨its, rv, p, hz⟩ := I.tuple hq
    have p : s.heap.IsTuple a its.toArray := p
    have hat : a ≠ it := tup_ne p hit
    obtain ⟨f0, f1, f2, f3, f4, f5⟩ := hf it (by simp)
    have hlen : its.toArray.size = i := by rw [List.size_toArray, ← rv.length, hx]
    refine wpAny_pyNext_enum_endD (Draws.tuple (prog := X.prog) (w := X.w) (A := X.A.in1) (I.ok.hd hc) it a hat its.toArray) he ?_ fun h' eb => ⟨rfl, I.turned (t' := s.toks) (fun b o hb q => eb b o hb q) f0 f1 f3 f4 f5⟩
    rw [hlen]
    exact ⟨hit, p⟩
  self := fun A i s Q E st h => let ⟨⟨_, he⟩, _⟩ := st; wpAny_pyIter_enum he h
def iEnumT (K : PySem.W.Frag) (ta : TA) : TI := fun σ H R => ta σ H fun vs H1 => ∃ a xs, vs = [.ref a] ∧ SqT K H1 a xs ∧ R (IteT K a) H1
theorem pi_enumT {X : Cx} {e : Expr} {ta : TA} {p pos tpos : Pos} {elts : List Expr} {kk : Nat} (hg : Gl X "enumerate") (hm : X.mg "enumerate" = none) (ha : PA X [e] ta) (hs : starEach [e] X.env = [(false, eval e X.env)] := by rfl) :
    PI X (.Tuple elts kk tpos) (.Call (.Name "enumerate" p) [e] [] pos) (iEnumT X.K ta) := by
  refine ⟨fun pins s σ H R I h => ?_⟩
  refine Call_ (ld_blt I hg hm boot_enumerate (PyProof.Rows.callWith_type1 (thn (ha.run pos pins s σ H _ I h) fun us s1 ⟨vs, H1, I1, r1, q1⟩ => ?_) hs rfl))
  obtain ⟨a, xs, ex, hq, q⟩ := q1
  subst ex
  cases r1 with
  | cons r rr =>
    cases rr
    cases r
    obtain ⟨its, rv, p', hz⟩ := I1.tuple hq
    have hlt : a < s1.heap.objs.size := by obtain ⟨_, e, _⟩ := p'; exact Heap.lt_size e
    refine call_enumerate_tuple p' fun h' he hit hsz hk => wpAny_pyIter_enum he ?_
    have I2 : Inv X pins σ H1 { s1 with heap := h' } := I1.kept (t' := s1.toks) hk
    refine ⟨s1.heap.objs.size + 1, [s1.heap.objs.size + 1, s1.heap.objs.size], _, _, H1, rfl, I2, turn_enumT a (s1.heap.objs.size + 1) s1.heap.objs.size (Nat.ne_of_lt (Nat.lt_succ_of_lt hlt)), ⟨⟨.none, he⟩, hit, Nat.succ_ne_self _⟩, fun b hb => ?_, q⟩
    have e' : b = s1.heap.objs.size + 1 ∨ b = s1.heap.objs.size := by simpa using hb
    have hle : s1.heap.objs.size ≤ b := by
      rcases e' with z | z
      · rw [z]; exact Nat.le_add_right _ _
      · rw [z]; exact Nat.le_refl _
    exact I1.fpOk hle (I1.hok.fresh hle)
theorem walk_enumT {K : PySem.W.Frag} {a : Addr} {xs : List V} : Walk (IteT K a) xs.length (fun H => SqT K H a xs) (YPair (fun i => some (.int (i : Nat))) (fun i => xs[i]?)) := by
  refine ⟨fun i H hi hG => ⟨xs, xs[i], hG, List.getElem?_eq_getElem hi⟩, fun H hG => ⟨xs, hG, rfl⟩, fun i H x H' hi hG y => ?_⟩
  obtain ⟨T, x, e1, e2, e3, e4⟩ := y
  exact ⟨T, _, x, e1, e2, e3, rfl, e4 xs hG⟩

/-! ### tuple.index of an int -/
theorem flat_ints (ns : List Int) : (ns.map V.int).all flatV = true := by
  rw [List.all_map]
  exact List.all_eq_true.mpr fun _ _ => rfl
theorem mt_tindex {X : Cx} : MtR X "tuple.index" (fun x xs H Q => ∃ p, ∃ ys : List Int, ∃ z j, x = .ref p ∧ xs = [.int z] ∧ SqT X.K H p (ys.map V.int) ∧ ys[j]? = some z ∧ (∀ m, m < j → ys[m]? ≠ some z) ∧ Q (.int (j : Nat)) H) := by
  intro pins s σ H x xs v us Q I rx rs h
  obtain ⟨p, ys, z, j, rfl, rfl, hq, hy, hno, q⟩ := h
  cases rx
  obtain ⟨u, rfl, t, rfl⟩ := vals1 rs
  obtain ⟨its, r, pl, hz⟩ := I.tuple hq
  obtain ⟨⟨cls, dd, dt, sl⟩, ho, hc, n, hd⟩ := pl
  simp only at hc hd
  subst hc
  subst hd
  have hl : its.toArray.size = ys.length := by rw [List.size_toArray, ← r.length, List.length_map]
  have hj : j < its.toArray.size := by rw [hl]; exact (List.getElem?_eq_some_iff.mp hy).1
  have at' : ∀ (m : Nat) (hm : m < its.toArray.size), ∃ y t', ys[m]? = some y ∧ its.toArray[m] = Value.int y t' := fun m hm => by
    have hm' : m < ys.length := by rw [← hl]; exact hm
    obtain ⟨w, hw, t', hw'⟩ := r.get (i := m) (x := .int ys[m]) (by simp [hm'])
    refine ⟨ys[m], t', List.getElem?_eq_getElem hm', ?_⟩
    have e := (List.getElem?_eq_some_iff.mp hw).2
    rw [← hw', ← e]
    simp
  refine call_meets PySem.F.slot_tuple_index ⟨_, ho, rfl⟩ PySem.F.entry_tuple_index (PySem.F.args_tuple_index_2 _ _) (TI.tuple_indexAt p its.toArray n dd sl (.int z t) (eqU (.int z)) j hj ?_ ?_)
    ⟨ho, fun w hw => mem_eqAt (x := .int z) ⟨t, rfl⟩ rfl r (flat_ints ys) w (by simpa using hw), ⟨.int (j : Nat), H, I.tok _, ⟨_, rfl⟩, q⟩⟩
  · obtain ⟨y, t', h1, h2⟩ := at' j hj
    rw [hy] at h1
    cases h1
    rw [h2]
    show (z == z) = true
    exact beq_self_eq_true z
  · intro m hm hmj
    obtain ⟨y, t', h1, h2⟩ := at' m hm
    rw [h2]
    show (y == z) = false
    exact beq_eq_false_iff_ne.mpr fun e => hno m hmj (e ▸ h1)

/-! ### rules by the written part K itself (for a comprehension's block) -/
def rLen (K : PySem.W.Frag) : List V → Hp → VK → Prop := fun xs H Q => ∃ p ys, xs = [.ref p] ∧ (SqL K H p ys ∨ SqT K H p ys) ∧ Q (.int ys.length) H
def rTupOf (K : PySem.W.Frag) : List V → Hp → VK → Prop := fun xs H Q => ∃ p ys, xs = [.ref p] ∧ ((SqL K H p ys ∧ ∀ l, H l = none → Q (.ref l) (upd H l (.tup ys))) ∨ (SqT K H p ys ∧ Q (.ref p) H))
def rListOf (K : PySem.W.Frag) : List V → Hp → VK → Prop := fun xs H Q => ∃ p ys, xs = [.ref p] ∧ (SqL K H p ys ∨ SqT K H p ys) ∧ ∀ l, H l = none → Q (.ref l) (upd H l (.lst ys))
section
variable {X : Cx} {K : PySem.W.Frag}
theorem k_len (hK : X.K = K) : CallR X (.builtin "len") (rLen K) := by subst hK; exact call_len_seq
theorem k_tupOf (hK : X.K = K) : CallR X (.type "tuple") (rTupOf K) := by subst hK; exact call_tuple_of
theorem k_listOf (hK : X.K = K) : CallR X (.type "list") (rListOf K) := by subst hK; exact call_list_of
theorem k_isi (hK : X.K = K) : CallR X (.builtin "isinstance") (rIsi K) := by subst hK; exact call_isi
theorem k_ixT (hK : X.K = K) : IxR X (rIxT K) := by subst hK; exact ix_tup
theorem k_ixL (hK : X.K = K) : IxR X (rIxL K) := by subst hK; exact ix_list
theorem k_slT (hK : X.K = K) : SlR X (rSlA K) := by subst hK; exact sl_tupA
theorem k_catT (hK : X.K = K) : OpR X (binaryOp .Add) (rCatA K) := by subst hK; exact op_catA
theorem k_sumT (hK : X.K = K) (hc : X.calm = true) : CallR X (.builtin "sum") (rSumT K) := by subst hK; exact cr_sumT hc
end

/-! ### a statement, then the rest, with a word between them -/
def tCut (t u : TS) : TS := fun D σ H => ∃ Mid : L2.St → Hp → Prop, t { D with nx := Mid } σ H ∧ ∀ σ' H', Mid σ' H' → u D σ' H'
theorem pss_cut {X : Cx} {st : Stmt} {rest : List Stmt} {t u : TS} (h1 : PS X st t) (h2 : PSs X rest u) : PSs X (st :: rest) (tCut t u) := by
  refine ⟨fun pins s σ H D I h => ?_⟩
  obtain ⟨Mid, hm, hu⟩ := h
  refine wpAny_execs_cons (thn (h1.run pins s σ H { D with nx := Mid } I hm) fun f s1 q => ?_)
  cases f with
  | next =>
    obtain ⟨σ', H', I', q⟩ := q
    exact h2.run pins s1 σ' H' D I' (hu σ' H' q)
  | ret v => exact q
  | brk => exact q
  | cont => exact q

/-! ### a tuple that is known to be plain; its method index -/
def rTupOfZ (K : PySem.W.Frag) : List V → Hp → VK → Prop := fun xs H Q => ∃ p ys, xs = [.ref p] ∧ SqL K H p ys ∧ ∀ l o, H l = none → o.dict = none → Q (.ref l) (upd H l (.frz o (.tup ys)))
theorem k_tupOfZ {X : Cx} {K : PySem.W.Frag} (hK : X.K = K) : CallR X (.type "tuple") (rTupOfZ K) := by
  subst hK
  intro pins s σ H xs us Q I r h
  obtain ⟨p, ys, rfl, hq, q⟩ := h
  obtain ⟨u, rfl, rx⟩ := vals1 r
  cases rx
  obtain ⟨its, r', pl, hz⟩ := I.list hq
  have hlen := r'.length
  refine call_tuple_list pl.isList (fun h' kp => ?_) (by simp only [List.size_toArray] <;> omega)
  have I1 : Inv X pins σ H { s with heap := h' } := I.kept (t' := s.toks) kp
  have I2 : Inv X pins σ (upd H h'.objs.size (.frz { cls := .type "tuple", data := .seq its.toArray } (.tup ys))) { s with heap := h'.push { cls := .type "tuple", data := .seq its.toArray } } :=
    I1.laid (t' := s.toks) (fun b o e => Heap.get?_push_of_some _ e) (Nat.le_refl _) (show ObjOk X.prog X.w _ _ _ (.frz _ (.tup ys)) from ⟨Heap.get?_push_size _ rfl, hz, its, r', IsTup.new _ _⟩)
  exact ⟨.ref h'.objs.size, _, I2, rfl, q _ _ (I1.hok.fresh (Nat.le_refl _)) rfl⟩
def tTM (r : V → List V → Hp → VK → Prop) (to : TE) (t : TA) : TE := fun σ H Q => to σ H fun x H1 => (∃ a ob xs, x = .ref a ∧ H1 a = some (.frz ob (.tup xs)) ∧ ob.dict = none) ∧ t σ H1 fun xs H2 => r x xs H2 Q
theorem pe_tm {X : Cx} {o e : Expr} {es : List Expr} {to : TE} {t : TA} {name : Str} {apos cpos : Pos} {id : String} {r : V → List V → Hp → VK → Prop} (slot : Slot "tuple" name id) (hty : typeOf (.builtin id) = pure (.type "method_descriptor")) (hm : MtR X id r) (ho : PE X o to) (ha : PA X (e :: es) t)
    (hbase : attributeBase o name X.env (eval o X.env) = eval o X.env := by rfl)
    (hfew : ((backTo cpos (starEach (e :: es) X.env)).all (fun x => !x.1) && (backToKw cpos (keywordEach [] X.env)).all (fun x => x.1.isSome)
      && decide ((e :: es).length + ([] : List Keyword).length + (if ([] : List Keyword).isEmpty then 0 else 1) < 30)) = true := by rfl)
    (hline : (apos.endLine == cpos.line) = true := by rfl) (hs : starEach (e :: es) X.env = (false, eval e X.env) :: starEach es X.env := by rfl) (hplain : (backTo cpos (starEach es X.env)).any (·.1) = false := by rfl) :
    PE X (.Call (.Attribute o name apos) (e :: es) [] cpos) (tTM r to t) := by
  refine ⟨fun pins s σ H Q I h => ?_⟩
  refine wpAny_Call_method_late hbase hfew hline rfl (thn (ho.run pins s σ H _ I h) fun v s1 ⟨x, H1, I1, r1, ty, q1⟩ => ?_)
  obtain ⟨a, ob, xs, rfl, hf, hd⟩ := ty
  cases r1
  obtain ⟨hg, hz, its, rv, o', ho', hc, _⟩ := (show ObjOk X.prog X.w H1 s1.heap a (.frz ob (.tup xs)) from I1.hok a _ hf)
  have hc' : ob.cls = .type "tuple" := by rw [hg] at ho'; cases ho'; exact hc
  refine ⟨"tuple", id, PySem.F.plainAttrs_tuple, slot, hty, ⟨ob, hg, hc'⟩, fun b e => by cases e; exact ⟨ob, hg, hd⟩, ?_⟩
  have hA := ha.run cpos pins s1 σ H1 _ I1 q1
  rw [hs] at hA ⊢
  refine Calls.callWith_builtin (by show (false || (backTo cpos (starEach es X.env)).any (·.1)) = false; rw [hplain] <;> rfl) (Calls.evalArgs_plain ?_)
  exact thn hA fun us s2 ⟨vs, H2, I2, r2, q2⟩ => hm pins s2 σ H2 (.ref a) vs (.ref a) us Q I2 rfl r2 q2

/-! ### places in the text -/
def xAsg : Stmt → Expr
  | .Assign _ e _ => e
  | _ => .Constant .none 0 ⟨0, 0, 0, 0⟩
def xArg (i : Nat) : Expr → Expr
  | .Call _ as _ _ => as.getD i (.Constant .none 0 ⟨0, 0, 0, 0⟩)
  | _ => .Constant .none 0 ⟨0, 0, 0, 0⟩
def xLcSc : Expr → Scope
  | .ListComp _ _ sc _ => sc
  | _ => { kind := .function, names := [], isGenerator := false, isCoroutine := false }
/-! ### readings are monotone -/
theorem mono_pair {K : PySem.W.Frag} {n i j : Nat} (x : V) (σ' : L2.St) (H' : Hp) (Q Q' : L2.St → Hp → Prop) (h : ∀ a b, Q a b → Q' a b) (e : gTup K n (gCons (gName i) (gCons (gName j) gNil)) x σ' H' Q) : gTup K n (gCons (gName i) (gCons (gName j) gNil)) x σ' H' Q' := by
  obtain ⟨a, xs, e1, e2, e3, v, r, e4, v', r', e5, e6, q⟩ := e
  exact ⟨a, xs, e1, e2, e3, v, r, e4, v', r', e5, e6, h _ _ q⟩

section
variable {X : Cx} {K : PySem.W.Frag}
theorem k_piL {tg l : Expr} {tl : TE} (hK : X.K = K) (hl : PE X l tl) : PI X tg l (iList K tl) := by subst hK; exact pi_list hl
theorem k_piT {tg l : Expr} {tl : TE} (hK : X.K = K) (hl : PE X l tl) : PI X tg l (iTup K tl) := by subst hK; exact pi_tup hl
theorem k_pgT2 {x y : Str} {px py : Pos} {k : Nat} {pos : Pos} {t1 t2 : TG} (hK : X.K = K) (hc : X.calm = true) (h1 : PG X (.Name x px) t1) (h2 : PG X (.Name y py) t2) : PG X (.Tuple [.Name x px, .Name y py] k pos) (gTup K 2 (gCons t1 (gCons t2 gNil))) := by
  subst hK
  exact pg_tup hc (pgs_cons h1 (pgs_cons h2 pgs_nil))
end
end MB

set_option maxHeartbeats 4000000
namespace MB
open PySem PySem.Spec PyProof.Rows L2

/-! ### heaps -/
theorem same_upd {H : Hp} {p : Addr} {o : HO} (h : H p = none) : Same H (upd H p o) := fun b x e => by
  rw [upd_ne (ne_of_none e h)]
  exact e
/-- an object that was not tracked may change -/
theorem Same.mut {H H' : Hp} {p : Addr} {o : HO} (s : Same H H') (h : H p = none) : Same H (upd H' p o) := fun b x e => by
  rw [upd_ne (ne_of_none e h)]
  exact s _ _ e
theorem Same.tup {K : PySem.W.Frag} {H H' : Hp} {a : Addr} {xs : List V} (e : Same H H') (h : SqT K H a xs) : SqT K H' a xs := by
  rcases h with (h | ⟨o, h⟩) | h
  · exact .inl (.inl (e _ _ h))
  · exact .inl (.inr ⟨o, e _ _ h⟩)
  · exact .inr h
theorem Same.tupF {K : PySem.W.Frag} {H H' : Hp} {a : Addr} {o : Obj} {xs : List V} (e : Same H H') (h : H a = some (.frz o (.tup xs))) : SqT K H' a xs := .inl (.inr ⟨o, e _ _ h⟩)
theorem Dp.same {K : PySem.W.Frag} {H H' : Hp} (e : Same H H') : ∀ {v : V} {d : PyData}, Dp K H v d → Dp K H' v d := by
  intro v d h
  refine Dp.rec (motive_1 := fun v d _ => Dp K H' v d) (motive_2 := fun vs ds _ => DpAll K H' vs ds) ?_ ?_ ?_ ?_ ?_ ?_ ?_ ?_ h
  · exact .non
  · intro b; exact .bl b
  · intro i; exact .int i
  · intro x; exact .str x
  · intro a xs ds hs _ ih; exact .lst (e.seq hs) ih
  · intro a xs ds hs _ ih; exact .tup (Same.tup e hs) ih
  · exact .nil
  · intro v vs d ds _ _ h1 h2; exact .cons h1 h2
theorem DpAll.get {K : PySem.W.Frag} {H : Hp} : ∀ {vs : List V} {ds : List PyData}, DpAll K H vs ds → ∀ {i : Nat} {d : PyData}, ds[i]? = some d → ∃ v, vs[i]? = some v ∧ Dp K H v d
  | _, _, .nil, i, d, h => by simp at h
  | _, _, .cons a b, 0, d, h => by
    simp at h; subst h
    exact ⟨_, rfl, a⟩
  | _, _, .cons a b, i + 1, d, h => by
    obtain ⟨v, h1, h2⟩ := DpAll.get b (i := i) (d := d) (by simpa using h)
    exact ⟨v, by simpa using h1, h2⟩
theorem DpAll.len {K : PySem.W.Frag} {H : Hp} : ∀ {vs : List V} {ds : List PyData}, DpAll K H vs ds → vs.length = ds.length
  | _, _, .nil => rfl
  | _, _, .cons a b => by simp [DpAll.len b]
theorem DpAll.take {K : PySem.W.Frag} {H : Hp} : ∀ {vs : List V} {ds : List PyData} (n : Nat), DpAll K H vs ds → DpAll K H (vs.take n) (ds.take n)
  | _, _, 0, _ => .nil
  | _, _, _ + 1, .nil => .nil
  | _, _, n + 1, .cons a b => .cons a (DpAll.take n b)
theorem DpAll.append {K : PySem.W.Frag} {H : Hp} : ∀ {vs ws : List V} {ds es : List PyData}, DpAll K H vs ds → DpAll K H ws es → DpAll K H (vs ++ ws) (ds ++ es)
  | _, _, _, _, .nil, s => s
  | _, _, _, _, .cons a b, s => .cons a (DpAll.append b s)
theorem DpAll.same {K : PySem.W.Frag} {H H' : Hp} (e : Same H H') : ∀ {vs : List V} {ds : List PyData}, DpAll K H vs ds → DpAll K H' vs ds
  | _, _, .nil => .nil
  | _, _, .cons a b => .cons (Dp.same e a) (DpAll.same e b)
theorem dp_ints {K : PySem.W.Frag} {H : Hp} : ∀ ns : List Int, DpAll K H (ns.map V.int) (ns.map PyData.int)
  | [] => .nil
  | n :: ns => .cons (.int n) (dp_ints ns)
theorem ty_tup {K : PySem.W.Frag} {H : Hp} {a : Addr} {xs : List V} (h : SqT K H a xs) : TyX K H (.ref a) (.type "tuple") := by
  rcases h with (h | ⟨o, h⟩) | ⟨o, its, n, h, hc, _⟩
  · exact .base (.tup h)
  · exact .fTuple h
  · exact .kTuple h hc

/-! ### lists of numbers -/
def vi (p : List Nat) : List V := p.map fun (m : Nat) => V.int (m : Int)
def ci (p : List Nat) : List Int := p.map fun (m : Nat) => (m : Int)
theorem vi_ci (p : List Nat) : vi p = (ci p).map V.int := by simp [vi, ci]
theorem vi_len (p : List Nat) : (vi p).length = p.length := by simp [vi]
theorem vi_get {p : List Nat} {i m : Nat} (h : p[i]? = some m) : (vi p)[i]? = some (.int (m : Int)) := by simp [vi, h]
theorem vi_app (p q : List Nat) : vi (p ++ q) = vi p ++ vi q := by simp [vi]
theorem at_vi {p : List Nat} {i m : Nat} (h : p[i]? = some m) : atI (vi p) (i : Int) = some (.int (m : Int)) := atI_nat (vi_get h)
theorem sz60 {n : Nat} (h : n ≤ 100000) : n ≤ sizeLine := Nat.le_trans h (by decide)
theorem sz61 {n : Nat} (h : n ≤ 100000) : n < sizeLine := Nat.lt_of_le_of_lt h (by decide)
theorem decT {c : Prop} [Decidable c] (h : c) {A B : Prop} (a : A) : if decide c = true then A else B := by
  rw [if_pos (decide_eq_true h)]; exact a
theorem decF {c : Prop} [Decidable c] (h : ¬ c) {A B : Prop} (b : B) : if decide c = true then A else B := by
  rw [if_neg (by simp [h])]; exact b

/-! ### data of tuples: no list within -/
inductive Tf : PyData → Prop
  | non : Tf .none
  | bl (b : Bool) : Tf (.bool b)
  | int (i : Int) : Tf (.int i)
  | str (x : Str) : Tf (.str x)
  | tup {ds : List PyData} : (∀ d, d ∈ ds → Tf d) → Tf (.tuple ds)
theorem Tf.items {ds : List PyData} (h : Tf (.tuple ds)) : ∀ d, d ∈ ds → Tf d := by
  cases h with
  | tup h => exact h
theorem tf_ints (ns : List Int) : ∀ d, d ∈ ns.map PyData.int → Tf d := fun d h => by
  obtain ⟨i, _, rfl⟩ := List.mem_map.mp h
  exact .int i
/-- all tuples stay -/
def Keep (K : PySem.W.Frag) (H H' : Hp) : Prop := ∀ a xs, SqT K H a xs → SqT K H' a xs
theorem Keep.of {K : PySem.W.Frag} {H H' : Hp} (s : Same H H') : Keep K H H' := fun _ _ h => Same.tup s h
theorem Keep.trans {K : PySem.W.Frag} {H H1 H2 : Hp} (a : Keep K H H1) (b : Keep K H1 H2) : Keep K H H2 := fun _ _ h => b _ _ (a _ _ h)
theorem Keep.refl {K : PySem.W.Frag} {H : Hp} : Keep K H H := fun _ _ h => h
/-- all but the list at l stay -/
def But (l : Addr) (H H' : Hp) : Prop := ∀ b o, b ≠ l → H b = some o → H' b = some o
theorem But.refl {l : Addr} {H : Hp} : But l H H := fun _ _ _ h => h
theorem But.trans {l : Addr} {H H1 H2 : Hp} (a : But l H H1) (b : But l H1 H2) : But l H H2 := fun c o n h => b c o n (a c o n h)
theorem But.of {l : Addr} {H H' : Hp} (s : Same H H') : But l H H' := fun c o _ h => s c o h
theorem But.upd {l : Addr} {H : Hp} {o : HO} : But l H (L2.upd H l o) := fun c u n h => by rw [upd_ne n]; exact h
theorem But.keep {K : PySem.W.Frag} {l : Addr} {H H' : Hp} {ys : List V} (s : But l H H') (hl : H l = some (.lst ys)) : Keep K H H' := fun a xs h => by
  rcases h with (h | ⟨o, h⟩) | h
  · exact .inl (.inl (s _ _ (fun e => by rw [e, hl] at h; cases h) h))
  · exact .inl (.inr ⟨o, s _ _ (fun e => by rw [e, hl] at h; cases h) h⟩)
  · exact .inr h
theorem But.same {l : Addr} {H0 H H' : Hp} (s : Same H0 H) (b : But l H H') (n : H0 l = none) : Same H0 H' := fun c o e => b c o (ne_of_none e n) (s c o e)
theorem Dp.keep {K : PySem.W.Frag} {H H' : Hp} (e : Keep K H H') : ∀ {v : V} {d : PyData}, Tf d → Dp K H v d → Dp K H' v d := by
  intro v d t h
  refine Dp.rec (motive_1 := fun v d _ => Tf d → Dp K H' v d) (motive_2 := fun vs ds _ => (∀ d, d ∈ ds → Tf d) → DpAll K H' vs ds) ?_ ?_ ?_ ?_ ?_ ?_ ?_ ?_ h t
  · intro _; exact .non
  · intro b _; exact .bl b
  · intro i _; exact .int i
  · intro x _; exact .str x
  · intro a xs ds hs _ ih t; cases t
  · intro a xs ds hs _ ih t; exact .tup (e _ _ hs) (ih t.items)
  · intro _; exact .nil
  · intro v vs d ds _ _ h1 h2 t; exact .cons (h1 (t _ (List.mem_cons_self ..))) (h2 fun d hd => t d (List.mem_cons_of_mem _ hd))
theorem DpAll.keep {K : PySem.W.Frag} {H H' : Hp} (e : Keep K H H') : ∀ {vs : List V} {ds : List PyData}, (∀ d, d ∈ ds → Tf d) → DpAll K H vs ds → DpAll K H' vs ds
  | _, _, _, .nil => .nil
  | _, _, t, .cons a b => .cons (Dp.keep e (t _ (List.mem_cons_self ..)) a) (DpAll.keep e (fun d hd => t d (List.mem_cons_of_mem _ hd)) b)
theorem dp_ints_inv {K : PySem.W.Frag} {H : Hp} : ∀ {ns : List Int} {vs : List V}, DpAll K H vs (ns.map PyData.int) → vs = ns.map V.int
  | [], _, .nil => rfl
  | n :: ns, _, .cons a b => by
    cases a
    rw [dp_ints_inv b]
    rfl
theorem Dp.tupInv {K : PySem.W.Frag} {H : Hp} {v : V} {ds : List PyData} (h : Dp K H v (.tuple ds)) : ∃ a xs, v = .ref a ∧ SqT K H a xs ∧ DpAll K H xs ds := by
  cases h with
  | tup h1 h2 => exact ⟨_, _, rfl, h1, h2⟩
theorem Dp.intsInv {K : PySem.W.Frag} {H : Hp} {v : V} {ns : List Int} (h : Dp K H v (.tuple (ns.map PyData.int))) : ∃ a, v = .ref a ∧ SqT K H a (ns.map V.int) := by
  obtain ⟨a, xs, e, h1, h2⟩ := Dp.tupInv h
  rw [dp_ints_inv h2] at h1
  exact ⟨a, e, h1⟩

/-! ### a comprehension that gives an item at each turn -/
theorem lc_all {K : PySem.W.Frag} {J : It} {n : Nat} {G : Hp → Prop} {Y : Nat → Hp → V → Hp → Prop} (w : Walk J n G Y) {g : TG} {tt : TT} {te : TE} {vs : List Nat} {σ : L2.St} {H1 : Hp} {D : Addr} {Qd : Hp → Prop}
    (ds : List PyData) (hl : ds.length = n) (ht : ∀ d, d ∈ ds → Tf d) (hn : n ≤ 1000) (hD : H1 D = none) (hG : ∀ H, Same H1 H → G H)
    (hs : ∀ i x H H', i < n → Same H1 H → Y i H x H' → ∀ d, ds[i]? = some d → ∀ R : V → Hp → Prop, (∀ y H4, Same H H4 → Dp K H4 y d → R y H4) →
      g x (wipe σ vs) H' fun σ2 H2 => wipe σ2 vs = wipe σ vs ∧ tt σ2 H2 fun b H3 => b = true ∧ te σ2 H3 R)
    (hd : ∀ H acc, Same H1 H → H D = some (.lst acc) → DpAll K H acc ds → Qd H)
    (mg : ∀ x σ' H' (Q Q' : L2.St → Hp → Prop), (∀ a b, Q a b → Q' a b) → g x σ' H' Q → g x σ' H' Q') (mt : ∀ σ' H' (Q Q' : Bool → Hp → Prop), (∀ a b, Q a b → Q' a b) → tt σ' H' Q → tt σ' H' Q') :
    ∃ W : Nat → Nat → Hp → Prop, (∃ m, W 0 m (upd H1 D (.lst []))) ∧ ∀ i m H, W i m H →
      (J.stop i H ∧ Qd H) ∨ (J.go i H ∧ ∃ Nx : Hp → Prop, (∀ H', Nx H' → ∃ m', m' < m ∧ W (i + 1) m' H') ∧ ∀ x H', J.yld i H x H' → g x (wipe σ vs) H' fun σ2 H2 => wipe σ2 vs = wipe σ vs ∧ tt σ2 H2 fun b H3 =>
        if b = true then te σ2 H3 fun y H4 => ∃ acc, H4 D = some (.lst acc) ∧ acc.length < sizeLine ∧ Nx (upd H4 D (.lst (acc ++ [y]))) else Nx H3) := by
  refine lc_it w (fun i H => Same H1 H ∧ ∃ acc, H D = some (.lst acc) ∧ DpAll K H acc (ds.take i)) ⟨same_upd hD, [], upd_same, .nil⟩ (fun i H _ h => hG H h.1) ?_ ?_
  · rintro i x H H' hi ⟨s1, acc, ha, hA⟩ hy
    have hd' : ds[i]? = some ds[i] := List.getElem?_eq_getElem (by omega)
    have hlen := DpAll.len hA
    rw [List.length_take] at hlen
    refine mg _ _ _ _ _ ?_ (hs i x H H' hi s1 hy ds[i] hd' (fun y H4 => ∃ acc, H4 D = some (.lst acc) ∧ acc.length < sizeLine ∧ (Same H1 (upd H4 D (.lst (acc ++ [y]))) ∧ ∃ acc', (upd H4 D (.lst (acc ++ [y]))) D = some (.lst acc') ∧ DpAll K (upd H4 D (.lst (acc ++ [y]))) acc' (ds.take (i + 1)))) ?_)
    · rintro σ2 H2 ⟨h1, h2⟩
      refine ⟨h1, mt _ _ _ _ ?_ h2⟩
      rintro b H3 ⟨rfl, h3⟩
      exact iteT h3
    · intro y H4 s4 hy4
      refine ⟨acc, s4 _ _ ha, sz61 (by omega), Same.mut (s1.trans s4) hD, acc ++ [y], upd_same, ?_⟩
      have kp : Keep K H4 (upd H4 D (.lst (acc ++ [y]))) := But.keep But.upd (s4 _ _ ha)
      rw [List.take_add_one, hd']
      refine DpAll.keep kp (fun d h => ?_) (DpAll.append (DpAll.same s4 hA) (.cons hy4 .nil))
      rcases List.mem_append.mp h with h | h
      · exact ht d (List.mem_of_mem_take h)
      · have e : d = ds[i] := by simpa using h
        rw [e]; exact ht _ (List.getElem_mem ..)
  · rintro H ⟨s1, acc, ha, hA⟩
    rw [List.take_of_length_le (by omega)] at hA
    exact hd H acc s1 ha hA

/-! ### tuples cut and joined -/
theorem cut_to {xs : List V} {k : Nat} (h : k ≤ xs.length) : cutV xs none (some (k : Int)) = xs.take k := by
  unfold cutV
  rw [HT.sIx_none, HT.sIx_nat, Nat.min_eq_left h]
  simp
theorem cut_from {xs : List V} {k : Nat} (h : k ≤ xs.length) : cutV xs (some (k : Int)) none = xs.drop k := by
  unfold cutV
  rw [HT.sIx_none, HT.sIx_nat, Nat.min_eq_left h]
  rw [List.take_of_length_le (by rw [List.length_drop]; omega)]
theorem sl_read {K : PySem.W.Frag} {H : Hp} {a : Addr} {xs : List V} {lo hi : Option Int} {Q : VK} (h : SqT K H a xs) (q : ∀ p H', Same H H' → SqT K H' p (cutV xs lo hi) → Q (.ref p) H') : rSlA K (.ref a) lo hi H Q := by
  refine ⟨a, xs, rfl, h, fun e => q a H (Same.refl H) ?_, fun _ p hp => q p _ (same_upd hp) (.inl (.inl upd_same))⟩
  unfold cutV
  rw [e.1, e.2]
  simpa using h
theorem cat_read {K : PySem.W.Frag} {H : Hp} {a b : Addr} {xs ys : List V} {Q : VK} (ha : SqT K H a xs) (hb : SqT K H b ys) (hz : xs.length + ys.length ≤ 100000) (q : ∀ p H', Same H H' → SqT K H' p (xs ++ ys) → Q (.ref p) H') : rCatA K (.ref a) (.ref b) H Q := by
  refine ⟨a, b, xs, ys, rfl, rfl, ha, hb, sz60 hz, fun e => q b H (Same.refl H) ?_, fun _ e => q a H (Same.refl H) ?_, fun _ _ p hp => q p _ (same_upd hp) (.inl (.inl upd_same))⟩
  · rw [e]; exact hb
  · rw [e, List.append_nil]; exact ha
theorem DpAll.snoc {K : PySem.W.Frag} {H : Hp} : ∀ {vs : List V} {ds : List PyData} {d : PyData}, DpAll K H vs (ds ++ [d]) → ∃ us v, vs = us ++ [v] ∧ DpAll K H us ds ∧ Dp K H v d
  | _, [], _, .cons a .nil => ⟨[], _, rfl, .nil, a⟩
  | _, _ :: ds, _, .cons a b => by
    obtain ⟨us, v, e, h1, h2⟩ := DpAll.snoc b
    exact ⟨_ :: us, v, by rw [e]; rfl, .cons a h1, h2⟩
theorem ixN_of {n j : Nat} (hj : j < n) : ixN n (j : Int) = some j := by
  unfold ixN
  rw [if_pos (by omega), if_pos (by omega)]
  simp
theorem vi_set (c : List Nat) (k v : Nat) : (vi c).set k (.int (v : Int)) = vi (c.set k v) := by
  unfold vi
  rw [List.map_set]
theorem vi_rep (n v : Nat) : vi (List.replicate n v) = List.replicate n (.int (v : Int)) := by simp [vi]

/-! ### [x for x in range(lo, hi) if ..] -/
theorem lc_fil {lo : Int} {n j : Nat} {vs : List Nat} {σ : L2.St} {H1 : Hp} {D : Addr} {Qd : Hp → Prop} {tt : TT} (f : Nat → Bool) (hn : n ≤ 1000) (hD : H1 D = none)
    (hw : ∀ x, wipe ((wipe σ vs).set j (some x)) vs = wipe σ vs) (hj : ∀ x : V, ((wipe σ vs).set j (some x))[j]? = some (some x))
    (ht : ∀ (i : Nat) H (Q : Bool → Hp → Prop), i < n → Same H1 H → Q (f i) H → tt ((wipe σ vs).set j (some (.int (lo + (i : Nat))))) H Q)
    (hd : ∀ H, Same H1 H → H D = some (.lst (((List.range n).filter f).map fun (i : Nat) => V.int (lo + (i : Nat)))) → Qd H) :
    ∃ W : Nat → Nat → Hp → Prop, (∃ m, W 0 m (upd H1 D (.lst []))) ∧ ∀ i m H, W i m H →
      ((Itr lo n).stop i H ∧ Qd H) ∨ ((Itr lo n).go i H ∧ ∃ Nx : Hp → Prop, (∀ H', Nx H' → ∃ m', m' < m ∧ W (i + 1) m' H') ∧ ∀ x H', (Itr lo n).yld i H x H' → gName j x (wipe σ vs) H' fun σ2 H2 => wipe σ2 vs = wipe σ vs ∧ tt σ2 H2 fun b H3 =>
        if b = true then tVar j σ2 H3 fun y H4 => ∃ acc, H4 D = some (.lst acc) ∧ acc.length < sizeLine ∧ Nx (upd H4 D (.lst (acc ++ [y]))) else Nx H3) := by
  refine lc_range (lo := lo) (n := n) (fun i H => Same H1 H ∧ H D = some (.lst (((List.range i).filter f).map fun (i : Nat) => V.int (lo + (i : Nat))))) ⟨same_upd hD, upd_same⟩ ?_ ?_
  · rintro i H hi ⟨s1, h1⟩
    refine ⟨hw _, ht i H _ hi s1 ?_⟩
    have hlen : (((List.range i).filter f).map fun (i : Nat) => V.int (lo + (i : Nat))).length ≤ i := by
      rw [List.length_map]
      have := List.length_filter_le f (List.range i)
      rw [List.length_range] at this
      exact this
    by_cases hf : f i = true
    · rw [hf]
      refine iteT ⟨_, hj _, _, h1, sz61 (by omega), Same.mut s1 hD, ?_⟩
      rw [List.range_succ, List.filter_append, List.map_append]
      simp only [List.filter_cons, hf, if_true, List.filter_nil, List.map_cons, List.map_nil]
      exact upd_same
    · have hf' : f i = false := by simpa using hf
      rw [hf']
      refine iteF ⟨s1, ?_⟩
      rw [List.range_succ, List.filter_append, List.map_append]
      simpa [hf'] using h1
  · rintro H ⟨s1, h1⟩
    exact hd H s1 h1
theorem iteB1 {b : Bool} {A B : Prop} (h : b = true) (a : A) : if b = true then A else B := by rw [if_pos h]; exact a
theorem iteB0 {b : Bool} {A B : Prop} (h : b = false) (a : B) : if b = true then A else B := by rw [if_neg (by rw [h]; decide)]; exact a

/-! ### deep comparisons -/
theorem lay_all : ∀ {ds : List PyData}, (∀ d, d ∈ ds → d.canLay0 = true) → PyData.canLayAll0 ds = true
  | [], _ => by simp [PyData.canLayAll0]
  | d :: ds, h => by
    simp only [PyData.canLayAll0]
    rw [h d (List.mem_cons_self ..), lay_all fun e he => h e (List.mem_cons_of_mem _ he)]; rfl
theorem dep_all {k : Nat} : ∀ {ds : List PyData}, (∀ d, d ∈ ds → d.depth ≤ k) → PyData.depthAll ds ≤ k
  | [], _ => by simp [PyData.depthAll]
  | d :: ds, h => by
    simp only [PyData.depthAll]
    have h1 := h d (List.mem_cons_self ..)
    have h2 := dep_all (k := k) fun e he => h e (List.mem_cons_of_mem _ he)
    omega
/-- plain data of at most so many levels -/
def Sh (k : Nat) (d : PyData) : Prop := d.canLay0 = true ∧ d.depth ≤ k
theorem Sh.shaped {k : Nat} {d : PyData} (h : Sh k d) (hk : k ≤ 64) : SeqAt.shaped d = true := by
  unfold SeqAt.shaped
  rw [h.1, decide_eq_true (by have := h.2; omega)]; rfl
theorem Sh.tup {k : Nat} {ds : List PyData} (h : ∀ d, d ∈ ds → Sh k d) : Sh (k + 1) (.tuple ds) :=
  ⟨by simp only [PyData.canLay0]; exact lay_all fun d hd => (h d hd).1, by simp only [PyData.depth]; have := dep_all (k := k) (ds := ds) fun d hd => (h d hd).2; omega⟩
theorem Sh.lst {k : Nat} {ds : List PyData} (h : ∀ d, d ∈ ds → Sh k d) : Sh (k + 1) (.list ds) :=
  ⟨by simp only [PyData.canLay0]; exact lay_all fun d hd => (h d hd).1, by simp only [PyData.depth]; have := dep_all (k := k) (ds := ds) fun d hd => (h d hd).2; omega⟩
theorem Sh.int (i : Int) {k : Nat} : Sh k (.int i) := ⟨by simp [PyData.canLay0], by simp [PyData.depth]⟩
theorem Sh.ints {k : Nat} (ns : List Int) : ∀ d, d ∈ ns.map PyData.int → Sh k d := fun d h => by
  obtain ⟨i, _, rfl⟩ := List.mem_map.mp h
  exact .int i
theorem eq_data {K : PySem.W.Frag} {H : Hp} {x y : V} {d : PyData} {Q : VK} {k : Nat} (hx : Dp K H x d) (hy : Dp K H y d) (hs : Sh k d) (hk : k ≤ 64) (q : Q (.bl true) H) : rEqD K x y H Q :=
  ⟨d, d, hx, hy, hs.shaped hk, hs.shaped hk, by rw [SeqAt.eqv_refl d hs.1]; exact q⟩
theorem ne_data {K : PySem.W.Frag} {H : Hp} {x y : V} {d : PyData} {Q : VK} {k : Nat} (hx : Dp K H x d) (hy : Dp K H y d) (hs : Sh k d) (hk : k ≤ 64) (q : Q (.bl false) H) : rNeD K x y H Q :=
  ⟨d, d, hx, hy, hs.shaped hk, hs.shaped hk, by rw [SeqAt.eqv_refl d hs.1]; exact q⟩
theorem dp_tup {K : PySem.W.Frag} {H : Hp} {a : Addr} {ns : List Int} (h : SqT K H a (ns.map V.int)) : Dp K H (.ref a) (.tuple (ns.map PyData.int)) := .tup h (dp_ints ns)
theorem ne_ints {K : PySem.W.Frag} {H : Hp} {a b : Addr} {ns : List Int} {Q : VK} (ha : SqT K H a (ns.map V.int)) (hb : SqT K H b (ns.map V.int)) (q : Q (.bl false) H) : rNeD K (.ref a) (.ref b) H Q :=
  ne_data (dp_tup ha) (dp_tup hb) (Sh.tup (k := 0) (Sh.ints ns)) (by decide) q
end MB

set_option maxHeartbeats 4000000
namespace MB
open PySem PySem.Spec PyProof.Rows L2
/-! ### dicts whose keys are tuples of ints, by the data of the keys -/
abbrev KX := List (List Int × Addr × V)
def RX : KX → List (List Int × Addr × Value) → Prop := Paired fun p q => p.1 = q.1 ∧ p.2.1 = q.2.1 ∧ RelV p.2.2 q.2.2
def kvX (L : KX) : List (List Int × V) := L.map fun x => (x.1, x.2.2)
def putX (L : KX) (k : List Int) (b : Addr) (v : V) : KX :=
  if ((kvX L).any fun kv => decide (kv.1 = k)) = true then L.map (fun x => if x.1 = k then (x.1, x.2.1, v) else x) else L ++ [(k, b, v)]
theorem kvX_put (L : KX) (k : List Int) (b : Addr) (v : V) : kvX (putX L k b v) = putK (kvX L) k v := by
  unfold putX putK
  split
  · unfold kvX
    rw [List.map_map, List.map_map]
    refine List.map_congr_left fun x _ => ?_
    by_cases h : x.1 = k <;> simp [h]
  · simp [kvX]
theorem putX_key {L : KX} {k : List Int} {b : Addr} {v : V} {x : List Int × Addr × V} (h : x ∈ putX L k b v) : (∃ y ∈ L, x.1 = y.1 ∧ x.2.1 = y.2.1) ∨ (x.1 = k ∧ x.2.1 = b) := by
  unfold putX at h
  split at h
  · obtain ⟨y, hy, rfl⟩ := List.mem_map.mp h
    refine .inl ⟨y, hy, ?_⟩
    split <;> exact ⟨rfl, rfl⟩
  · rcases List.mem_append.mp h with h | h
    · exact .inl ⟨x, h, rfl, rfl⟩
    · simp only [List.mem_singleton] at h
      subst h
      exact .inr ⟨rfl, rfl⟩
theorem RX.val {L : KX} {xs : List (List Int × Addr × Value)} (r : RX L xs) (k : List Int) : RelO (valV (kvX L) k) ((atKey xs k).map (·.2)) := by
  unfold RX at r
  induction r with
  | nil => exact True.intro
  | @cons p q ps qs h t ih =>
    obtain ⟨h1, _, h2⟩ := h
    show RelO (valV ((p.1, p.2.2) :: kvX ps) k) _
    by_cases e : p.1 = k
    · have e' : q.1 = k := h1.symm.trans e
      have b : atKey (q :: qs) k = some q.2 := by simp [atKey, List.find?_cons, e']
      rw [valV_pos (p := (p.1, p.2.2)) e, b]; exact h2
    · have e' : ¬ q.1 = k := fun z => e (h1.trans z)
      have b : atKey (q :: qs) k = atKey qs k := by simp [atKey, List.find?_cons, e']
      rw [valV_neg (p := (p.1, p.2.2)) e, b]; exact ih
theorem RX.repl {L : KX} {xs : List (List Int × Addr × Value)} (r : RX L xs) (k : List Int) {y : V} {u : Value} (ry : RelV y u) :
    RX (L.map fun x => if x.1 = k then (x.1, x.2.1, y) else x) (xs.map (putAt k u)) := by
  unfold RX at r ⊢
  induction r with
  | nil => exact .nil
  | @cons p q ps qs h t ih =>
    rw [List.map_cons, List.map_cons]
    refine .cons ?_ ih
    obtain ⟨h1, h2, h3⟩ := h
    unfold putAt
    by_cases e : p.1 = k
    · rw [if_pos e, if_pos (h1.symm.trans e)]; exact ⟨h1, h2, ry⟩
    · rw [if_neg e, if_neg (fun z => e (h1.trans z))]; exact ⟨h1, h2, h3⟩
theorem RX.put {L : KX} {xs : List (List Int × Addr × Value)} (r : RX L xs) (k : List Int) {b : Addr} {y : V} {u : Value} (ry : RelV y u) : RX (putX L k b y) (storedH xs k b u) := by
  have e : ((kvX L).any fun kv => decide (kv.1 = k)) = (atKey xs k).isSome := by
    rw [valV_any, (r.val k).isSome_eq, Option.isSome_map]
  unfold putX storedH
  rw [e]
  by_cases q : (atKey xs k).isSome = true
  · rw [if_pos q, if_pos q]; exact r.repl k ry
  · rw [if_neg q, if_neg q]; exact Paired.snoc r ⟨rfl, rfl, ry⟩
theorem RX.len {L : KX} {xs : List (List Int × Addr × Value)} (r : RX L xs) : L.length = xs.length := Paired.length r
theorem kvX_len (L : KX) : (kvX L).length = L.length := by simp [kvX]
def DX0 (P : Program) (w : World) (h : Heap) (d : Addr) (L : KX) : Prop := L.length ≤ sizeLine ∧ (d == sysModules) = false ∧ ∃ xs, RX L xs ∧
  ∃ o es ep, h.get? d = some o ∧ o.ExactDict ∧ o.data = .dict es ep ∧ es.toList = xs.map (entryOfKey (tupleKind (intKind P w))) ∧ (xs.map (·.1)).Nodup
def DXO (P : Program) (w : World) (d : Addr) (L : KX) : HO := .ext fun h => DX0 P w h d L
theorem dx_new {P : Program} {w : World} {H : Hp} {h : Heap} {d : Addr} {L : KX} (R : DX0 P w h d L) : ObjOk P w H h d (DXO P w d L) := by
  have ⟨z, y, xs, r, o, es, ep, ho, q⟩ := R
  refine ⟨R, ⟨o, ho⟩, fun h1 h2 p k => ?_⟩
  have ⟨z', y', xs', r', o', es', ep', ho', q'⟩ := p
  exact ⟨z', y', xs', r', o', es', ep', k o' ho', q'⟩
/-- at d stands a dict with the keys and values kvs -/
def DN (K : PySem.W.Frag) (P : Program) (w : World) (H : Hp) (d : Addr) (kvs : List (List Int × V)) : Prop :=
  ∃ L : KX, H d = some (DXO P w d L) ∧ (∀ x ∈ L, SqT K H x.2.1 (x.1.map V.int)) ∧ kvX L = kvs
theorem DN.same {K : PySem.W.Frag} {P : Program} {w : World} {H H' : Hp} {d : Addr} {kvs : List (List Int × V)} (g : DN K P w H d kvs) (s : Same H H') : DN K P w H' d kvs := by
  obtain ⟨L, h1, h2, h3⟩ := g
  exact ⟨L, s _ _ h1, fun x hx => Same.tup s (h2 x hx), h3⟩
theorem DN.keep {K : PySem.W.Frag} {P : Program} {w : World} {H H' : Hp} {d : Addr} {kvs : List (List Int × V)} (g : DN K P w H d kvs) (s : Keep K H H') (e : ∀ o, H d = some o → H' d = some o) : DN K P w H' d kvs := by
  obtain ⟨L, h1, h2, h3⟩ := g
  exact ⟨L, e _ h1, fun x hx => s _ _ (h2 x hx), h3⟩
/-- what is not at d stays, tuples stay -/
theorem keep_updX {K : PySem.W.Frag} {P : Program} {w : World} {H : Hp} {d : Addr} {L L' : KX} (h : H d = some (DXO P w d L)) : Keep K H (upd H d (DXO P w d L')) := fun a xs hs => by
  rcases hs with (hs | ⟨o, hs⟩) | hs
  · exact .inl (.inl (by rw [upd_ne (fun e => by rw [e, h] at hs; cases hs)]; exact hs))
  · exact .inl (.inr ⟨o, by rw [upd_ne (fun e => by rw [e, h] at hs; cases hs)]; exact hs⟩)
  · exact .inr hs
section
variable {X : Cx} {pins : List (Addr × Obj)} {σ : L2.St} {H : Hp} {s : Shared} {d a b : Addr} {kvs : List (List Int × V)} {k : List Int} {A : Around} {E : Value → Shared → Prop}
theorem DN.at (I : Inv X pins σ H s) (g : DN X.K X.prog X.w H d kvs) : (d == sysModules) = false ∧ ∃ (L : KX) (xs : List (List Int × Addr × Value)), H d = some (DXO X.prog X.w d L) ∧ (∀ x ∈ L, SqT X.K H x.2.1 (x.1.map V.int)) ∧ kvX L = kvs ∧ RX L xs ∧ L.length ≤ sizeLine ∧ s.heap.DictOfH (tupleKind (intKind X.prog X.w)) d xs := by
  obtain ⟨L, h1, h2, h3⟩ := g
  obtain ⟨⟨z, y, xs, r, o, es, ep, ho, hc, hd, he, hn⟩, _⟩ := (show ObjOk X.prog X.w H s.heap d (DXO X.prog X.w d L) from I.hok d _ h1)
  refine ⟨y, L, xs, h1, h2, h3, r, z, o, es, ep, ho, hc, hd, he, ?_, hn⟩
  have all : ∀ {l : KX} {m : List (List Int × Addr × Value)}, RX l m → (∀ x ∈ l, SqT X.K H x.2.1 (x.1.map V.int)) → ∀ x ∈ m, (tupleKind (intKind X.prog X.w)).is s.heap x.1 x.2.1 := by
    intro l m q
    unfold RX at q
    induction q with
    | nil => intro _ x hx; exact nomatch hx
    | @cons p q ps qs hq t ih =>
      intro hl x hx
      rcases List.mem_cons.mp hx with e | hx
      · subst e
        have := I.isT (hl p (List.mem_cons_self ..))
        rw [hq.1, hq.2.1] at this
        exact this
      · exact ih (fun x hx => hl x (List.mem_cons_of_mem _ hx)) x hx
  exact all r h2
theorem DN.typeIs (I : Inv X pins σ H s) (g : DN X.K X.prog X.w H d kvs) : s.TypeIs (.ref d) "dict" := by
  obtain ⟨_, _, _, _, _, _, _, _, dd⟩ := g.at I
  exact dd.typeIs
theorem DN.noDict (I : Inv X pins σ H s) (g : DN X.K X.prog X.w H d kvs) : ∀ b, Value.ref d = .ref b → ∃ ob, s.heap.get? b = some ob ∧ ob.dict = none := fun b q => by
  cases q
  obtain ⟨_, _, _, _, _, _, _, _, ob, _, _, h1, h2, _⟩ := g.at I
  exact ⟨ob, h1, h2.2.1⟩
theorem n_getItem {v : V} {Q : Value → Shared → Prop} (hu : A.units + 1 < cLine) (I : Inv X pins σ H s) (g : DN X.K X.prog X.w H d kvs) (hk : SqT X.K H b (k.map V.int)) (hv : valV kvs k = some v) (h : ∀ w' s', Inv X pins σ H s' → RelV v w' → Q w' s') :
    wpAny (model X.prog X.w) A (getItem (.ref d) (.ref b)) Q E s := by
  obtain ⟨hd, L, xs, _, _, e, r, _, dd⟩ := g.at I
  obtain ⟨w', hw, rw'⟩ := RelO.some_of (v := v) (o := (atKey xs k).map (·.2)) (by rw [← hv, ← e]; exact r.val k)
  obtain ⟨p, hp, hp2⟩ := Option.map_eq_some_iff.mp hw
  refine wpAny_getItem_heap (tupleKind_room_in1 hu) (I.isT hk) dd hp ?_
  rw [hp2]
  exact h w' _ (I.tok _) rw'
theorem n_in {Q : Value → Shared → Prop} (hu : A.units + 1 < cLine) (I : Inv X pins σ H s) (g : DN X.K X.prog X.w H d kvs) (hk : SqT X.K H b (k.map V.int)) (h : ∀ s', Inv X pins σ H s' → Q (.bool (valV kvs k).isSome) s') :
    wpAny (model X.prog X.w) A (compareOp .In (.ref b) (.ref d)) Q E s := by
  obtain ⟨hd, L, xs, _, _, e, r, _, dd⟩ := g.at I
  refine wpAny_in_heap (tupleKind_room_in1 hu) (I.isT hk) hd dd ?_
  have q := (r.val k).isSome_eq
  rw [Option.isSome_map, e] at q
  rw [← q]
  exact h _ (I.tok _)
theorem n_notIn {Q : Value → Shared → Prop} (hu : A.units + 1 < cLine) (I : Inv X pins σ H s) (g : DN X.K X.prog X.w H d kvs) (hk : SqT X.K H b (k.map V.int)) (h : ∀ s', Inv X pins σ H s' → Q (.bool (!(valV kvs k).isSome)) s') :
    wpAny (model X.prog X.w) A (compareOp .NotIn (.ref b) (.ref d)) Q E s := by
  obtain ⟨hd, L, xs, _, _, e, r, _, dd⟩ := g.at I
  refine wpAny_notIn_heap (tupleKind_room_in1 hu) (I.isT hk) hd dd ?_
  have q := (r.val k).isSome_eq
  rw [Option.isSome_map, e] at q
  rw [← q]
  exact h _ (I.tok _)
theorem n_get1 {Q : Value → Shared → Prop} (hu : A.units + 1 < cLine) (I : Inv X pins σ H s) (g : DN X.K X.prog X.w H d kvs) (hk : SqT X.K H b (k.map V.int)) (h : ∀ w' s', Inv X pins σ H s' → RelV ((valV kvs k).getD .non) w' → Q w' s') :
    wpAny (model X.prog X.w) A (call (.builtin "dict.get") [.ref d, .ref b]) Q E s := by
  obtain ⟨hd, L, xs, _, _, e, r, _, dd⟩ := g.at I
  refine call_meetsIn PySem.F.slot_dict_get dd.typeIs PySem.F.entry_dict_get (PySem.F.args_dict_get_2 _ _) (meetsH_dict_get (tupleKind (intKind X.prog X.w)) d b hd) ⟨tupleKind_room_in1 hu, k, xs, I.isT hk, dd, h _ _ (I.tok _) ?_⟩
  rw [← e]
  exact (r.val k).getD rfl
theorem n_get2 {z : V} {u : Value} {Q : Value → Shared → Prop} (hu : A.units + 1 < cLine) (I : Inv X pins σ H s) (g : DN X.K X.prog X.w H d kvs) (hk : SqT X.K H b (k.map V.int)) (rz : RelV z u) (h : ∀ w' s', Inv X pins σ H s' → RelV ((valV kvs k).getD z) w' → Q w' s') :
    wpAny (model X.prog X.w) A (call (.builtin "dict.get") [.ref d, .ref b, u]) Q E s := by
  obtain ⟨hd, L, xs, _, _, e, r, _, dd⟩ := g.at I
  refine call_meetsIn PySem.F.slot_dict_get dd.typeIs PySem.F.entry_dict_get (PySem.F.args_dict_get_3 _ _ _) (meetsH_dict_get_default (tupleKind (intKind X.prog X.w)) d b hd u) ⟨tupleKind_room_in1 hu, k, xs, I.isT hk, dd, h _ _ (I.tok _) ?_⟩
  rw [← e]
  exact (r.val k).getD rz
/-- the heaps behind d[k] = v -/
def DNput (K : PySem.W.Frag) (P : Program) (w : World) (H : Hp) (d : Addr) (kvs : List (List Int × V)) (k : List Int) (v : V) (R : Hp → Prop) : Prop :=
  ∀ H', (∀ c, c ≠ d → H' c = H c) → Keep K H H' → DN K P w H' d (putK kvs k v) → R H'
theorem n_setItem {v : V} {u : Value} {Q : Unit → Shared → Prop} (hu : A.units + 1 < cLine) (I : Inv X pins σ H s) (g : DN X.K X.prog X.w H d kvs) (hk : SqT X.K H b (k.map V.int)) (hl : kvs.length < sizeLine) (rv : RelV v u) (h : DNput X.K X.prog X.w H d kvs k v fun H' => ∀ s', Inv X pins σ H' s' → Q () s') :
    wpAny (model X.prog X.w) A (setItem (.ref d) (.ref b) u) Q E s := by
  obtain ⟨hd, L, xs, hL, hS, e, r, z, dd⟩ := g.at I
  have hz : xs.length ≤ sizeLine := by rw [← r.len]; exact z
  have hl2 : (putX L k b v).length ≤ sizeLine := by
    have := length_putK kvs k v
    rw [← kvX_len, kvX_put, e]
    omega
  have kp := keep_updX (K := X.K) (L' := putX L k b v) hL
  refine wpAny_setItem_heap (hsz := hz) (tupleKind_room_in1 hu) (I.isT hk) dd fun h' dd' hs => ?_
  obtain ⟨q, es, ep, hq, h2, h3, h4, _, h5⟩ := dd'
  refine h _ (fun c hc => upd_ne hc) kp ⟨putX L k b v, upd_same, fun x hx => ?_, by rw [kvX_put, e]⟩ _ (d_write I (by rw [hL]; exact True.intro) hs ⟨q, hq⟩ (dx_new ⟨hl2, hd, _, r.put k rv, q, es, ep, hq, h2, h3, h4, h5⟩))
  rcases putX_key hx with ⟨y, hy, e1, e2⟩ | ⟨e1, e2⟩
  · rw [e1, e2]; exact kp _ _ (hS y hy)
  · rw [e1, e2]; exact kp _ _ hk
end
/-! ### readings -/
def tNGet (K : PySem.W.Frag) (P : Program) (w : World) (td ty : TE) : TE := fun σ H Q => td σ H fun x H1 => ty σ H1 fun y H2 => ∃ a b kvs k v, x = .ref a ∧ y = .ref b ∧ DN K P w H2 a kvs ∧ SqT K H2 b (k.map V.int) ∧ valV kvs k = some v ∧ Q v H2
def tNIn (K : PySem.W.Frag) (P : Program) (w : World) (ty td : TE) : TE := fun σ H Q => ty σ H fun y H1 => td σ H1 fun x H2 => ∃ a b kvs k, x = .ref a ∧ y = .ref b ∧ DN K P w H2 a kvs ∧ SqT K H2 b (k.map V.int) ∧ Q (.bl (valV kvs k).isSome) H2
def tNNotIn (K : PySem.W.Frag) (P : Program) (w : World) (ty td : TE) : TE := fun σ H Q => ty σ H fun y H1 => td σ H1 fun x H2 => ∃ a b kvs k, x = .ref a ∧ y = .ref b ∧ DN K P w H2 a kvs ∧ SqT K H2 b (k.map V.int) ∧ Q (.bl (!(valV kvs k).isSome)) H2
def sNPut (K : PySem.W.Frag) (P : Program) (w : World) (td ty tv : TE) : TS := fun D σ H => tv σ H fun v H1 => td σ H1 fun x H2 => ty σ H2 fun y H3 => ∃ a b kvs k, x = .ref a ∧ y = .ref b ∧ DN K P w H3 a kvs ∧ SqT K H3 b (k.map V.int) ∧ kvs.length < sizeLine ∧ DNput K P w H3 a kvs k v fun H' => D.nx σ H'
def tNGet1 (K : PySem.W.Frag) (P : Program) (w : World) (td ty : TE) : TE := fun σ H Q => td σ H fun x H1 => ∃ a kvs, x = .ref a ∧ DN K P w H1 a kvs ∧ ty σ H1 fun y H2 => ∃ b k, y = .ref b ∧ DN K P w H2 a kvs ∧ SqT K H2 b (k.map V.int) ∧ Q ((valV kvs k).getD .non) H2
def tNGet2 (K : PySem.W.Frag) (P : Program) (w : World) (td ty tx : TE) : TE := fun σ H Q => td σ H fun x H1 => ∃ a kvs, x = .ref a ∧ DN K P w H1 a kvs ∧ ty σ H1 fun y H2 => tx σ H2 fun z H3 => ∃ b k, y = .ref b ∧ DN K P w H3 a kvs ∧ SqT K H3 b (k.map V.int) ∧ Q ((valV kvs k).getD z) H3
section
variable {X : Cx} {K : PySem.W.Frag} {P : Program} {w : World} {o i e f value : Expr} {pos pos' tpos apos cpos : Pos} {td ty tv tx : TE}
theorem pe_nget (hK : X.K = K) (hP : X.prog = P) (hw : X.w = w) (hu : X.A.units + 1 < cLine) (ho : PE X o td) (hi : PE X i ty) (hs : NoSl i) : PE X (.Subscript o i pos) (tNGet K P w td ty) := by
  subst hK hP hw
  refine ⟨fun pins s σ H Q I h => ?_⟩
  refine subD_of PySem.F.slot_dict_getitem.lookup hs (thn (ho.run pins s σ H _ I h) fun u s1 ⟨x, H1, I1, rx, q1⟩ => thn (hi.run pins s1 σ H1 _ I1 q1) fun iv s2 ⟨y, H2, I2, ry, a, b, kvs, k, v, ex, ey, g, hk, hv, q2⟩ => ?_)
  subst ex ey
  obtain rfl : u = Value.ref a := rx
  obtain rfl : iv = Value.ref b := ry
  exact ⟨g.typeIs I2, n_getItem hu I2 g hk hv fun w' s3 I3 rw' => ⟨v, H2, I3, rw', q2⟩⟩
theorem pc_nin (hK : X.K = K) (hP : X.prog = P) (hw : X.w = w) (hu : X.A.units + 1 < cLine) (hi : PE X i ty) (ho : PE X o td) : PC X .In i o (tNIn K P w ty td) := by
  subst hK hP hw
  refine ⟨fun pins s σ H Q I h => ?_⟩
  refine thn (hi.run pins s σ H _ I h) fun iv s1 ⟨y, H1, I1, ry, q1⟩ => thn (ho.run pins s1 σ H1 _ I1 q1) fun u s2 ⟨x, H2, I2, rx, a, b, kvs, k, ex, ey, g, hk, q2⟩ => ?_
  subst ex ey
  obtain rfl : u = Value.ref a := rx
  obtain rfl : iv = Value.ref b := ry
  exact n_in hu I2 g hk fun s3 I3 => ⟨.bl _, H2, I3, rfl, q2⟩
theorem pc_nnotin (hK : X.K = K) (hP : X.prog = P) (hw : X.w = w) (hu : X.A.units + 1 < cLine) (hi : PE X i ty) (ho : PE X o td) : PC X .NotIn i o (tNNotIn K P w ty td) := by
  subst hK hP hw
  refine ⟨fun pins s σ H Q I h => ?_⟩
  refine thn (hi.run pins s σ H _ I h) fun iv s1 ⟨y, H1, I1, ry, q1⟩ => thn (ho.run pins s1 σ H1 _ I1 q1) fun u s2 ⟨x, H2, I2, rx, a, b, kvs, k, ex, ey, g, hk, q2⟩ => ?_
  subst ex ey
  obtain rfl : u = Value.ref a := rx
  obtain rfl : iv = Value.ref b := ry
  exact n_notIn hu I2 g hk fun s3 I3 => ⟨.bl _, H2, I3, rfl, q2⟩
theorem ps_nput (hK : X.K = K) (hP : X.prog = P) (hw : X.w = w) (hu : X.A.units + 1 < cLine) (ho : PE X o td) (hi : PE X i ty) (hv : PE X value tv) (hs : swapsWith value (some (.Subscript o i pos')) pos.line X.env = pure false) :
    PS X (.Assign [.Subscript o i pos'] value pos) (sNPut K P w td ty tv) := by
  subst hK hP hw
  refine ⟨fun pins s σ H D I h => ?_⟩
  refine wpAny_Assign_Subscript (thn (hv.run pins s σ H _ I h) fun r s1 ⟨v, H1, I1, rv, q1⟩ => thn (ho.run pins s1 σ H1 _ I1 q1) fun u s2 ⟨x, H2, I2, rx, q2⟩ => thn (hi.run pins s2 σ H2 _ I2 q2) fun iv s3 ⟨y, H3, I3, ry, a, b, kvs, k, ex, ey, g, hk, hl, q3⟩ => ?_) hs
  subst ex ey
  obtain rfl : u = Value.ref a := rx
  obtain rfl : iv = Value.ref b := ry
  exact n_setItem hu I3 g hk hl rv fun H' h1 h2 h3 s4 I4 => ⟨σ, H', I4, q3 H' h1 h2 h3⟩
theorem pe_nget1 (hK : X.K = K) (hP : X.prog = P) (hw : X.w = w) (hu : X.A.units + 1 < cLine) (ho : PE X o td) (he : PE X e ty) (m : M1 X o "get" apos e cpos) : PE X (.Call (.Attribute o "get" apos) [e] [] cpos) (tNGet1 K P w td ty) := by
  subst hK hP hw
  refine ⟨fun pins s σ H Q I h => ?_⟩
  refine wpAny_Call_method m.base m.few m.line PySem.F.plainAttrs_dict PySem.F.slot_dict_get PySem.F.type_dict_get (thn (ho.run pins s σ H _ I h) fun u s1 ⟨x, H1, I1, rx, a, kvs, ex, d, q1⟩ => ?_)
  subst ex
  obtain rfl : u = Value.ref a := rx
  refine ⟨d.typeIs I1, d.noDict I1, ?_⟩
  rw [m.trees]
  refine Calls.callWith_builtin rfl (Calls.evalArgs_plain (Calls.spliced_cons (thn (he.run pins s1 σ H1 _ I1 q1) fun iv s2 ⟨y, H2, I2, ry, b, k, ey, g, hk, q2⟩ => Calls.spliced_nil ?_)))
  subst ey
  obtain rfl : iv = Value.ref b := ry
  exact n_get1 hu I2 g hk fun w' s3 I3 rw' => ⟨_, H2, I3, rw', q2⟩
theorem pe_nget2 (hK : X.K = K) (hP : X.prog = P) (hw : X.w = w) (hu : X.A.units + 1 < cLine) (ho : PE X o td) (he : PE X e ty) (hf : PE X f tx) (m : M2 X o "get" apos e f cpos) : PE X (.Call (.Attribute o "get" apos) [e, f] [] cpos) (tNGet2 K P w td ty tx) := by
  subst hK hP hw
  refine ⟨fun pins s σ H Q I h => ?_⟩
  refine wpAny_Call_method m.base m.few m.line PySem.F.plainAttrs_dict PySem.F.slot_dict_get PySem.F.type_dict_get (thn (ho.run pins s σ H _ I h) fun u s1 ⟨x, H1, I1, rx, a, kvs, ex, d, q1⟩ => ?_)
  subst ex
  obtain rfl : u = Value.ref a := rx
  refine ⟨d.typeIs I1, d.noDict I1, ?_⟩
  rw [m.trees]
  refine Calls.callWith_builtin rfl (Calls.evalArgs_plain (Calls.spliced_cons (thn (he.run pins s1 σ H1 _ I1 q1) fun iv s2 ⟨y, H2, I2, ry, q2⟩ =>
    Calls.spliced_cons (thn (hf.run pins s2 σ H2 _ I2 q2) fun fv s3 ⟨z, H3, I3, rz, b, k, ey, g, hk, q3⟩ => Calls.spliced_nil ?_))))
  subst ey
  obtain rfl : iv = Value.ref b := ry
  exact n_get2 hu I3 g hk rz fun w' s4 I4 rw' => ⟨_, H3, I4, rw', q3⟩
end
theorem u2_of {A : Around} {k : Nat} (hr : Room k A) : A.units + 2 < cLine := Nat.lt_of_le_of_lt (Nat.add_le_add_left (by decide : 2 ≤ 64) _) hr.units
/-! ### {} and dict(list of pairs) -/
theorem dx_empty {P : Program} {w : World} (h : Heap) (hb : sysModules < h.objs.size) : DX0 P w (h.push { cls := .type "dict", data := .dict #[] }) h.objs.size [] :=
  ⟨Nat.zero_le _, beq_eq_false_iff_ne.mpr (Ne.symm (Nat.ne_of_lt hb)), [], .nil, _, #[], 0, Heap.get?_push_size _ rfl, ⟨rfl, rfl, rfl⟩, rfl, rfl, List.nodup_nil⟩
def tNNew (K : PySem.W.Frag) (P : Program) (w : World) : TE := fun _ H Q => ∀ p H', H p = none → Same H H' → DN K P w H' p [] → Q (.ref p) H'
theorem pe_nnew {X : Cx} {K : PySem.W.Frag} {P : Program} {w : World} {pos : Pos} (hK : X.K = K) (hP : X.prog = P) (hw : X.w = w) : PE X (.Dict [] [] pos) (tNNew K P w) := by
  subst hK hP hw
  refine ⟨fun pins s σ H Q I h => ?_⟩
  have hn : H s.heap.objs.size = none := I.hok.fresh (Nat.le_refl _)
  exact wpAny_Dict_empty ⟨.ref s.heap.objs.size, _, I.laid (a := s.heap.objs.size) (o := DXO X.prog X.w s.heap.objs.size []) (t' := s.toks) (fun _ _ q => Heap.get?_push_of_some _ q) (Nat.le_refl _) (dx_new (dx_empty s.heap I.big)), rfl, h _ _ hn (same_upd hn) ⟨[], upd_same, (fun x hx => nomatch hx), rfl⟩⟩
def mergeT (kvs more : List (List Int × V)) : List (List Int × V) := more.foldl (fun acc kv => putK acc kv.1 kv.2) kvs
def allX (L M : KX) : KX := M.foldl (fun acc p => putX acc p.1 p.2.1 p.2.2) L
theorem RX.all {M : KX} {ms : List (List Int × Addr × Value)} (r : RX M ms) : ∀ {L : KX} {xs : List (List Int × Addr × Value)}, RX L xs → RX (allX L M) (storedAllH xs ms) := by
  unfold RX at r
  induction r with
  | nil => intro L xs q; exact q
  | @cons p q ps qs h t ih =>
    intro L xs hq
    show RX (allX (putX L p.1 p.2.1 p.2.2) ps) (storedAllH (storedH xs q.1 q.2.1 q.2.2) qs)
    rw [← h.1, ← h.2.1]
    exact ih (hq.put _ h.2.2)
theorem kvX_all : ∀ (M L : KX), kvX (allX L M) = mergeT (kvX L) (kvX M)
  | [], _ => rfl
  | p :: M, L => by
    show kvX (allX (putX L p.1 p.2.1 p.2.2) M) = mergeT (putK (kvX L) p.1 p.2.2) (kvX M)
    rw [kvX_all M, kvX_put]
theorem allX_key {Pr : List Int → Addr → Prop} : ∀ {M L : KX}, (∀ x ∈ L, Pr x.1 x.2.1) → (∀ x ∈ M, Pr x.1 x.2.1) → ∀ x ∈ allX L M, Pr x.1 x.2.1
  | [], _, h, _ => h
  | p :: M, L, h, hp => allX_key (M := M) (L := putX L p.1 p.2.1 p.2.2) (fun x hx => by
      rcases putX_key hx with ⟨y, hy, e1, e2⟩ | ⟨e1, e2⟩
      · rw [e1, e2]; exact h y hy
      · rw [e1, e2]; exact hp p List.mem_cons_self) fun x hx => hp x (List.mem_cons_of_mem _ hx)
theorem putX_len (L : KX) (k : List Int) (b : Addr) (v : V) : (putX L k b v).length ≤ L.length + 1 := by
  unfold putX
  split <;> simp
theorem allX_len : ∀ (M L : KX), (allX L M).length ≤ L.length + M.length
  | [], _ => Nat.le_refl _
  | p :: M, L => by
    have h1 := allX_len M (putX L p.1 p.2.1 p.2.2)
    have h2 := putX_len L p.1 p.2.1 p.2.2
    show (allX (putX L p.1 p.2.1 p.2.2) M).length ≤ _
    simp only [List.length_cons]
    omega
/-- a list of pairs (tuple of ints, value) -/
def rDictT (K : PySem.W.Frag) (P : Program) (w : World) : List V → Hp → VK → Prop := fun xs H Q => ∃ (a : Addr) (ts : List Addr) (M : KX), xs = [V.ref a] ∧ SqL K H a (ts.map V.ref) ∧ Paired (fun t m => SqT K H t [V.ref m.2.1, m.2.2] ∧ SqT K H m.2.1 (m.1.map V.int)) ts M ∧
  ∀ p H', H p = none → Same H H' → DN K P w H' p (mergeT [] (kvX M)) → Q (.ref p) H'
theorem pairsT_of {X : Cx} {pins : List (Addr × Obj)} {σ : L2.St} {H : Hp} {s : Shared} (I : Inv X pins σ H s) : ∀ {ts : List Addr} {M : KX}, Paired (fun t m => SqT X.K H t [V.ref m.2.1, m.2.2] ∧ SqT X.K H m.2.1 (m.1.map V.int)) ts M →
    ∃ ms : List (List Int × Addr × Value), RX M ms ∧ ms.length = ts.length ∧ ∀ (j : Nat) (q : List Int × Addr × Value), ms[j]? = some q → ∃ t, ts[j]? = some t ∧ IsTup s.heap t #[Value.ref q.2.1, q.2.2] ∧ IsT X.prog X.w s.heap q.1 q.2.1
  | _, _, .nil => ⟨[], .nil, rfl, fun j q e => by simp at e⟩
  | _, _, .cons (a := p) (b := m) h t => by
    obtain ⟨ms, r, hl, hp⟩ := pairsT_of I t
    obtain ⟨its, rv, ht, _⟩ := I.tuple h.1
    obtain ⟨u, y, ei, ru, ry⟩ := vals2 rv
    subst ei
    cases ru
    refine ⟨(m.1, m.2.1, y) :: ms, .cons ⟨rfl, rfl, ry⟩ r, by rw [List.length_cons, List.length_cons, hl], fun j q e => ?_⟩
    cases j with
    | zero =>
      have e' : (m.1, m.2.1, y) = q := Option.some.inj e
      subst e'
      exact ⟨p, rfl, ht, I.isT h.2⟩
    | succ j =>
      obtain ⟨b, e1, e2, e3⟩ := hp j q (by simpa using e)
      exact ⟨b, by simpa using e1, e2, e3⟩
theorem call_dictT {X : Cx} {K : PySem.W.Frag} {P : Program} {w : World} (hK : X.K = K) (hP : X.prog = P) (hw : X.w = w) (hcalm : X.calm = true) (hu : X.A.units + 2 < cLine) : CallR X (.type "dict") (rDictT K P w) := by
  subst hK hP hw
  intro pins s σ H xs us Q I r q
  obtain ⟨a, ts, M, ex, hq, hp, q⟩ := q
  subst ex
  obtain ⟨u, eu, rx⟩ := vals1 r
  subst eu
  cases rx
  obtain ⟨its, rv, pl, hz⟩ := I.list hq
  have ei := refs_at rv
  subst ei
  rw [List.length_map] at hz
  obtain ⟨ms, rel, hl, hpr⟩ := pairsT_of I hp
  obtain ⟨o, n, ho, hc, hd, hdat⟩ := pl
  have hmsM := rel.len
  have isAll : ∀ x ∈ ms, (tupleKind (intKind X.prog X.w)).is s.heap x.1 x.2.1 := fun x hx => by
    obtain ⟨j, hj⟩ := List.mem_iff_getElem?.mp hx
    obtain ⟨t, _, _, h3⟩ := hpr j x hj
    exact h3
  have hn : H s.heap.objs.size = none := I.hok.fresh (Nat.le_refl _)
  refine call_dict_pairsH (knd := tupleKind (intKind X.prog X.w)) (ps := ms) (PairArg.list a (ts.map Value.ref).toArray (fun j => ts.getD j 0) (ms.map fun m => (Value.ref m.2.1, m.2.2))) (I.ok.hd hcalm) ?_ ⟨⟨o, n, ho, hc, hd, hdat⟩, ?_, ?_⟩ ⟨?_, ?_⟩ (fun h' hk x hx => ?_) ?_ fun h' tk hd' hk => ?_
  · show X.A.in1.units + 1 < cLine
    exact hu
  · simp [hl]
  · intro j k v hj
    rw [List.getElem?_map, Option.map_eq_some_iff] at hj
    obtain ⟨m, hm, em⟩ := hj
    cases em
    obtain ⟨t, e1, e2, e3⟩ := hpr j m hm
    have et : ts.getD j 0 = t := by rw [List.getD_eq_getElem?_getD, e1]; rfl
    dsimp only
    rw [et]
    refine ⟨by simp [e1], ?_⟩
    exact .inl e2
  · simp
  · intro i key v hr
    rw [PairRel, List.getElem?_map, Option.map_eq_some_iff] at hr
    obtain ⟨m, hm, em⟩ := hr
    cases em
    exact ⟨m.1, m.2.1, hm, rfl⟩
  · have := isAll x hx
    obtain ⟨o', items, n', ho', hc', hd', hi'⟩ := (show IsTupleKey (intKind X.prog X.w) s.heap x.1 x.2.1 from this)
    exact ⟨o', items, n', hk _ _ (Nat.ne_of_lt (Heap.lt_size ho')) (fun z => nomatch z) ho', hc', hd', hi'⟩
  · rw [List.length_map, hl]; exact hz
  · have hm : (s.heap.objs.size == sysModules) = false := beq_eq_false_iff_ne.mpr (Nat.ne_of_gt I.big)
    have hlen : (allX [] M).length ≤ sizeLine := by
      refine Nat.le_trans (allX_len M []) ?_
      rw [List.length_nil, Nat.zero_add, hmsM, hl]
      exact hz
    obtain ⟨o', es, ep, h1, h2, h3, h4, _, h5⟩ := hd'
    have I2 := I.laid (t' := tk) (fun b u e => hk b u (fun z => nomatch z) e) (Nat.le_refl _) (dx_new (H := upd H s.heap.objs.size (DXO X.prog X.w s.heap.objs.size (allX [] M))) (P := X.prog) (w := X.w) (h := h') (d := s.heap.objs.size) (L := allX [] M) ⟨hlen, hm, _, RX.all rel .nil, o', es, ep, h1, h2, h3, h4, h5⟩)
    refine ⟨.ref s.heap.objs.size, _, I2, rfl, q _ _ hn (same_upd hn) ⟨allX [] M, upd_same, ?_, kvX_all M []⟩⟩
    refine allX_key (Pr := fun k b => SqT X.K (upd H s.heap.objs.size (DXO X.prog X.w s.heap.objs.size (allX [] M))) b (k.map V.int)) (fun x hx => nomatch hx) fun x hx => ?_
    have fnd : ∀ {ts : List Addr} {M : KX}, Paired (fun t m => SqT X.K H t [V.ref m.2.1, m.2.2] ∧ SqT X.K H m.2.1 (m.1.map V.int)) ts M → ∀ x ∈ M, SqT X.K H x.2.1 (x.1.map V.int) := by
      intro ts M hp
      induction hp with
      | nil => intro x hx; exact nomatch hx
      | @cons p q ps qs h t ih =>
        intro x hx
        rcases List.mem_cons.mp hx with e | hx
        · subst e; exact h.2
        · exact ih x hx
    exact Same.tup (same_upd hn) (fnd hp x hx)
end MB

set_option maxHeartbeats 4000000
namespace MB
open PySem PySem.Spec PyProof.Rows L2

/-! ### a def called where no repr is under way -/
structure FnG (P : Program) (w : World) (K : PySem.W.Frag) (mg : Str → Option Value) (base : Heap) (CX : CXT) (k : Nat) (f : Addr) (fd : FuncData) (ps : List Str) (sp : Sp) : Prop where
  len : ∀ vs H Q E, sp vs H Q E → vs.length = ps.length
  run : ∀ (A : Around), A.guards = some [] → Room k A → ∀ (outer : List Env) (s : Shared) (H : Hp) (args : Args) (us : List Value) (vs : List V) (Q : VK) (E : XK),
    Env0 P w K mg base A outer s H → BindsTo s fd args (ps.zip us) → Vals vs us → sp vs H Q E → codeAny (model P w) A (.call (.ref f) args) (CR CX outer P w H s Q E) s
section
variable {P : Program} {w : World} {K : PySem.W.Frag} {mg : Str → Option Value} {base : Heap} {CX : CXT} {k : Nat} {f : Addr} {fd : FuncData} {ps : List Str} {sp : Sp}
theorem FnG.of (F : FnOk P w K mg base CX k f fd ps sp) : FnG P w K mg base CX k f fd ps sp :=
  ⟨F.len, fun A _ hr outer s H args us vs Q E => F.run A outer s H args us vs Q E hr⟩
theorem deeper_guards {A : Around} {env : Env} (h : A.guards = some []) : (A.deeper env).guards = some [] := h
theorem fnG_of {name qual : Str} {params : Arguments} {body : List Stmt} {scope : Scope} {dV kV doc pm cdv ct oc : Value} {an od : Option Addr} {osl : Array (Option Value)} {N : List Str}
    (lk : K.lookup f = some ⟨oc, od, .func (PySem.W.fnOf name qual params body scope dV kV doc pm an cdv ct), osl⟩) (hcd : PySem.W.codeIn K cdv qual = true) (S : FnScope N ps scope)
    (len : ∀ vs H Q E, sp vs H Q E → vs.length = ps.length)
    (hbody : ∀ (A : Around), A.guards = some [] → ∀ (outer : List Env) (s : Shared) (H : Hp) (vs : List V) (Q : VK) (E : XK), Room k (A.deeper (envOfC qual scope s.heap.objs.size f cdv)) → sp vs H Q E →
      ∃ t, PSs (cxOf CX P w K mg base N qual scope f cdv A outer s H E) body t ∧ t { nx := fun _ H' => Q .non H', rt := Q } (start N vs) H) :
    FnG P w K mg base CX (k + 1) f (PySem.W.fnOf name qual params body scope dV kV doc pm an cdv ct) ps sp := by
  refine ⟨len, fun A hgd hr outer s H args us vs Q E e0 hb r hsp => ?_⟩
  have kept : ∀ b o, base.get? b = some o → s.heap.get? b = some o := fun b o e => (e0.bs b o e).1
  have KX : K.In s.heap := e0.mod.kin.keeps kept
  obtain ⟨t, ht, hq⟩ := hbody A hgd outer s H vs Q E (hr.deeper _) hsp
  have par : ∀ y ∈ ps.zip us, scope.names.lookup y.1 = some .local ∨ (scope.names.lookup y.1 = some .cell ∧ ((cellsFrom (s.heap.objs.size + 1) scope.names []).lookup y.1).isSome = true) := by
    rintro ⟨n, v⟩ hy
    exact (S.par n (List.of_mem_zip hy).1).imp id fun z => ⟨z, PySem.W.cellsFrom_some _ _ _ (.inl z)⟩
  refine codeAny_call_function hr.depth (KX _ _ lk) rfl S.co S.gen rfl (PySem.W.codeRec_of KX hcd) (hb _ _ _ _ (wpAny_newFunctionEnv_cells S.kind par fun env he s1 x => ?_))
  subst he
  refine ⟨(e0.mod.nolimit.keeps kept).keeps x.toInCall.keep, codeAny_func (wpAny_mono (ht.run [] s1 (start N vs) H _ (inv_start S hr.hd e0 (len _ _ _ _ hsp) r x) hq) (fun fl s' hs => ?_) fun e s' hs => hs)⟩
  rcases fl with _ | _ | _ | u
  · obtain ⟨σ', H', J, q⟩ := hs
    exact ⟨V.non, H', J.os, J.bare, J.base, J.hok, rfl, q⟩
  · exact (let ⟨_, _, _, q⟩ := hs; False.elim q)
  · exact (let ⟨_, _, _, q⟩ := hs; False.elim q)
  · obtain ⟨v, σ', H', J, rv, q⟩ := hs
    exact ⟨v, H', J.os, J.bare, J.base, J.hok, rv, q⟩
theorem Fun.okG {x qual : Str} {st : Stmt} {N : List Str} (F : L2.Fun K x qual st f fd) (S : FnScope N ps (defScope st)) (len : ∀ vs H Q E, sp vs H Q E → vs.length = ps.length)
    (hbody : ∀ (cdv : Value) (A : Around), A.guards = some [] → ∀ (outer : List Env) (s : Shared) (H : Hp) (vs : List V) (Q : VK) (E : XK), Room k (A.deeper (envOfC qual (defScope st) s.heap.objs.size f cdv)) → sp vs H Q E →
      ∃ t, PSs (cxOf CX0 P w K mg base N qual (defScope st) f cdv A outer s H E).nox (defBody st) t ∧ t { nx := fun _ H' => Q .non H', rt := Q } (start N vs) H) : FnG P w K mg base CX0 (k + 1) f fd ps sp := by
  obtain ⟨oc, od, kV, doc, pm, an, cdv, ct, osl, rfl, lk, hcd⟩ := F.ex
  exact fnG_of lk hcd S len fun A hgd outer s H vs Q E hr hsp => let ⟨t, h, q⟩ := hbody cdv A hgd outer s H vs Q E hr hsp; ⟨t, h.nox, q⟩
end
section
variable {X : Cx} {CX : CXT} {k : Nat} {f : Addr} {fd : FuncData} {ps : List Str} {sp : Sp} {ds : List Value} {dvs : List V} {E : XK} {x : Str} {p pos : Pos} {e : Expr} {es : List Expr} {t : TA}
theorem pe_callG (F : FnG X.prog X.w X.K X.mg X.base CX k f fd ps sp) (hgd : X.A.guards = some []) (hr : Room k X.A) (hg : Gl X x) (hm : X.mg x = some (.ref f)) (hk : PySem.W.keepIn X.K (.ref f) = true) (hb : Binds X.K fd ps ds) (hd : Vals dvs ds) (hx : Passes CX X E)
    (ha : PA X (e :: es) t) (hdb : (x == ("__debug__" : Str)) = false := by decide) (he : starEach (e :: es) X.env = (false, eval e X.env) :: starEach es X.env := by rfl) (hpl : (backTo pos (starEach es X.env)).any (·.1) = false := by rfl) :
    PE X (.Call (.Name x p) (e :: es) [] pos) (tCall sp dvs E t) := by
  refine ⟨fun pins s σ H Q I h => wpAny_Call_Name_kw (ld_glob I hg hm (PySem.W.callWith_K (h₀ := X.base) I.ok.mod.kin hk (thn (ha.run pos pins s σ H _ I h) fun us s1 ⟨vs, H1, I1, r, q⟩ => ⟨I1.kIn, ?_⟩) he hpl) hdb)⟩
  have r2 : Vals (vs ++ dvs) (us ++ ds) := r.append hd
  have hl : (us ++ ds).length = ps.length := r2.length.symm.trans (F.len _ _ _ _ q)
  refine wpAny_call (codeAny_mono (F.run X.A hgd hr X.stack s1 H1 ⟨us, []⟩ (us ++ ds) (vs ++ dvs) Q E I1.env0 (hb s1 us I1.kIn hl) r2 q) fun res s' hq => ?_)
  rcases res with e | fl
  · exact hx pins σ H1 s1 e s' I1 hq
  · rcases fl with _ | _ | _ | u
    · exact False.elim hq
    · exact False.elim hq
    · exact False.elim hq
    · exact I1.after hq
end

/-! ### repr of plain data -/
def rReprD (K : PySem.W.Frag) : List V → Hp → VK → Prop := fun xs H Q => ∃ (x : V) (d : PyData), xs = [x] ∧ Dp K H x d ∧ d.canLay0 = true ∧ d.showable = true ∧ d.depth ≤ 60 ∧ d.shown.length ≤ sizeLine ∧ Q (.str d.shown) H
theorem call_reprD {X : Cx} (hgd : X.A.guards = some []) (hu : X.A.units + 64 < cLine) : CallR X (.builtin "repr") (rReprD X.K) := by
  intro pins s σ H xs us Q I r h
  obtain ⟨x, d, rfl, hd, hc, hs, hdep, hz, q⟩ := h
  obtain ⟨u, rfl, rx⟩ := vals1 r
  obtain ⟨as, rd⟩ := Dp.reads I d x u hd rx
  have nd := PyData.hasDict_of_canLay d hc
  have fin : ∀ (h' : Heap) (v tk : Tok), (∀ b o, s.heap.get? b = some o → h'.get? b = some o) → EP X pins σ Q (.str d.shown v) { s with heap := h', toks := tk } := fun h' v tk hk => ⟨.str d.shown, H, I.kept hk, ⟨_, rfl⟩, q⟩
  cases rd with
  | none => exact PySem.P.repr_of_none (fin _ _ _ fun _ _ e => e)
  | bool b =>
    refine PySem.P.repr_of_bool ?_
    cases b <;> exact fin s.heap s.toks (s.toks + 1) fun _ _ e => e
  | int i t => exact PySem.P.repr_of_int (by simpa [PyData.showable] using hs) (fin s.heap s.toks (s.toks + 1) fun _ _ e => e)
  | str y t => exact PySem.P.repr_of_str (fin s.heap s.toks (s.toks + 1) fun _ _ e => e) hz
  | list h1 h2 h3 h4 => exact repr_of_reads' (.list h1 h2 h3 h4) hs (PyData.noDict_hsm nd) hgd (by omega) (fun _ _ e => e) fin hz
  | tuple h1 h2 h3 h4 => exact repr_of_reads' (.tuple h1 h2 h3 h4) hs (PyData.noDict_hsm nd) hgd (by omega) (fun _ _ e => e) fin hz
  | dict h1 h2 h3 h4 h5 => simp [PyData.canLay0] at hc

/-! ### the end: a law whose promise asks that no repr is under way -/
theorem law_callG {P : Program} {w : World} {K : PySem.W.Frag} {mg mb : Str → Option Value} {k : Nat} {fa a : Addr} {fd : FuncData} {x : Str} {sp : Sp} {s₁ : Shared} {vs : List Value} {ns : List Int}
    (KX : K.In s₁.heap) (hns : s₁.heap.Ns mainGlobals mg) (hb : s₁.heap.Ns builtinsNs mb) (hbb : ∀ x : Str, x ≠ "__name__" → mb x = bootBuiltins x) (hlim : s₁.heap.NoLimit) (hg : s₁.gens = #[])
    (ha : s₁.heap.get? a = some { cls := .type "list", data := .seq vs.toArray }) (hi : IntsAre vs ns) (hl : ns.length ≤ sizeLine) (hr : Room k callerA)
    (F : ∀ base : Heap, K.In base → base.Ns mainGlobals mg → FnG P w K mg base CX0 k fa fd [x] sp) (hbind : ∀ (s : Shared) (u : Value), BindsTo s fd ⟨[u], []⟩ [(x, u)])
    (hsp : ∀ H : Hp, SqL K H a (ns.map V.int) → sp [.ref a] H (fun v _ => v = .bl true) fun _ _ _ => False) :
    codeAny (model P w) callerA (.call (.ref fa) ⟨[.ref a], []⟩) (fun r s' => r = .ok (.ret (.bool true)) ∧ OldK s₁.heap s'.heap ∧ s'.os = s₁.os ∧ AllBare s'.gens) s₁ := by
  let oS : Obj := { cls := .type "list", data := .seq vs.toArray }
  -- the script is tracked as it stands, unless it is one of the module's own objects
  let H : Hp := fun b => if b = a ∧ K.lookup a = none then some (.frz oS (.lst (ns.map V.int))) else none
  have rv := vals_ints hi
  have Hsome : ∀ {b : Addr} {o : HO}, H b = some o → b = a ∧ K.lookup a = none ∧ o = .frz oS (.lst (ns.map V.int)) := fun {b o} e => by
    by_cases c : b = a ∧ K.lookup a = none
    · have e' := (if_pos c).symm.trans e
      exact ⟨c.1, c.2, (Option.some.inj e').symm⟩
    · have e' := (if_neg c).symm.trans e
      cases e'
  have free : ∀ {b : Addr}, (∀ z : b = a, K.lookup a ≠ none) → H b = none := fun {b} n => if_neg fun c => n c.1 c.2
  have hS : SqL K H a (ns.map V.int) := by
    cases hk : K.lookup a with
    | none => exact .inl (.inr ⟨oS, if_pos ⟨rfl, hk⟩⟩)
    | some o =>
      have e := (KX a o hk).symm.trans ha
      cases e
      exact .inr ⟨_, vs.toArray, _, hk, rfl, rfl, rfl, by rw [List.size_toArray, hi.length]; exact hl, by simpa using rv⟩
  have hok : HOk P w H s₁.heap := fun b o e => by
    obtain ⟨rfl, _, rfl⟩ := Hsome e
    exact ⟨ha, by rw [List.length_map]; exact hl, vs, _, rv, ha⟩
  have noDict : ∀ {b : Addr} {o : Obj} {es : Array DictEntry} {ep : Nat}, s₁.heap.get? b = some o → o.data = .dict es ep → H b = none := fun {b o es ep} e d => free fun z => by
    subst z
    rw [ha] at e
    cases e
    cases d
  have ns_hid : ∀ {b : Addr} {m : Str → Option Value}, s₁.heap.Ns b m → (hidT s₁.heap H).Ns b m := fun {b m} ⟨o, es, ep, e, d, r⟩ => ⟨o, es, ep, hidT_get e (noDict e d), d, r⟩
  have hKb : K.In (hidT s₁.heap H) := fun b o e => hidT_get (KX b o e) (free fun z => by subst z; rw [e]; exact fun y => nomatch y)
  have hM : Mod K mg (hidT s₁.heap H) := ⟨hKb, ns_hid hns, ⟨mb, ns_hid hb, hbb⟩, let ⟨mc, h1, h2⟩ := hlim; ⟨mc, ns_hid h1, h2⟩⟩
  have e0 : Env0 P w K mg (hidT s₁.heap H) callerA [] s₁ H := ⟨rfl, hM, fun b o e => of_hidT e, Nat.le_of_eq (hidT_size _ _), trivial, (fun b hb => absurd (show b ∈ ([] : List Addr) from hb) (by simp)), hok, .of_eq hg⟩
  refine codeAny_mono ((F _ hKb (ns_hid hns)).run callerA rfl hr [] s₁ H ⟨[.ref a], []⟩ [.ref a] [.ref a] _ _ e0 (hbind s₁ (.ref a)) (.cons rfl .nil) (hsp H hS)) fun r s' h => ?_
  rcases r with e | fl
  · exact False.elim h
  rcases fl with _ | _ | _ | u
  · exact False.elim h
  · exact False.elim h
  · exact False.elim h
  obtain ⟨v, H', os, bare, un, hok', r', q⟩ := h
  have q' : v = .bl true := q
  subst q'
  obtain rfl : u = Value.bool true := r'
  refine ⟨rfl, OldK.of_keep fun b o e => ?_, os, bare⟩
  cases hb' : H b with
  | none => exact un.keep b o e hb' (fun z => absurd (show b ∈ ([] : List Addr) from z) (by simp)) (by simp)
  | some u =>
    obtain ⟨rfl, hk, rfl⟩ := Hsome hb'
    have e2 := (hok' _ _ (un.frzs _ oS _ hb')).1
    rw [ha] at e
    cases e
    exact e2
theorem walk_ofG {l : PySem.W.OpenLaw} {n k : Nat} {q : Program} {loose : List Str} {XP : (Str → Option Value) → Heap → Prop} {YP : World → Heap → Prop} {d : DefRec} {K : Params → PySem.W.Frag} {sp : PySem.W.Frag → Sp} {x : Str}
    (hn : l.most = some n) (hn2 : n ≤ sizeLine) (hdf : d.params.defaults = []) (hr : Room k callerA)
    (hY : ∀ (w : World) (h : Heap), YP w h → (K w.params).In h)
    (F : ∀ (w : World) (mg : Str → Option Value) (fa : Addr) (h : Heap), (K w.params).In h → h.Ns mainGlobals mg → mg d.name = some (.ref fa) →
      ∃ fd : FuncData, (∀ (s : Shared) (u : Value), BindsTo s fd ⟨[u], []⟩ [(x, u)]) ∧
        ∀ base : Heap, (K w.params).In base → base.Ns mainGlobals mg → FnG l.prog w (K w.params) mg base CX0 k fa fd [x] (sp (K w.params)))
    (hsp : ∀ (K : PySem.W.Frag) (H : Hp) (a : Addr) (ns : List Int), ns.length ≤ n → SqL K H a (ns.map V.int) → sp K [.ref a] H (fun v _ => v = .bl true) fun _ _ _ => False) :
    PySem.W.WalkO q loose XP YP l.row.toRowW d [] (fun f vs => PySem.call f vs) :=
  Att.attach_call hn hdf fun w s₀ s₁ mg mb fa o pm cd doc a vs ns G Y ho hd hcd hmg hobj hints hlen hg =>
    have KX := hY w _ Y
    let ⟨fd, hb, hF⟩ := F w mg fa _ KX G.T.g hmg
    law_callG KX G.T.g G.T.b G.T.builtins G.T.nolimit hg hobj hints (Nat.le_trans hlen hn2) hr hF hb fun H hS => hsp _ H a ns hlen hS
end MB

set_option maxHeartbeats 4000000
namespace MB
open PySem PySem.Spec PyProof.Rows L2
/-- data whose repr is asked: levels, size -/
structure Rp (k n : Nat) (d : PyData) : Prop where
  sh : Sh k d
  shw : d.showable = true
  short : d.leavesShort 13 = true
  bulk : d.bulk ≤ n
theorem Rp.mono {k n m : Nat} {d : PyData} (h : Rp k n d) (e : n ≤ m) : Rp k m d := ⟨h.sh, h.shw, h.short, Nat.le_trans h.bulk e⟩
theorem Rp.int {i : Int} {k : Nat} (h : i.natAbs < 1000000) : Rp k 0 (.int i) := by
  refine ⟨.int i, ?_, ?_, by simp [PyData.bulk]⟩
  · simp only [PyData.showable]
    refine decide_eq_true ?_
    by_cases h0 : i.natAbs = 0
    · rw [h0]; decide
    · exact Nat.lt_trans ((Nat.log2_lt h0).mpr (show i.natAbs < 2 ^ 20 by omega)) (by decide)
  · simp only [PyData.leavesShort]
    refine decide_eq_true ?_
    have e := int_text_length_le10 (a := i) (k := 6) (by decide) h
    have e2 : (PyData.shown (.int i)).length = (toString i).length := by
      simp only [PyData.shown]
      exact PySem.ofString_length _
    omega
theorem rp_all {k n : Nat} : ∀ {ds : List PyData}, (∀ d, d ∈ ds → Rp k n d) → PyData.showableAll ds = true ∧ PyData.leavesShortAll 13 ds = true ∧ PyData.bulkAll ds ≤ (n + 1) * ds.length
  | [], _ => ⟨by simp [PyData.showableAll], by simp [PyData.leavesShortAll], by simp [PyData.bulkAll]⟩
  | d :: ds, h => by
    have h1 := h d (List.mem_cons_self ..)
    obtain ⟨a, b, c⟩ := rp_all fun e he => h e (List.mem_cons_of_mem _ he)
    refine ⟨by simp only [PyData.showableAll, h1.shw, a, Bool.and_self], by simp only [PyData.leavesShortAll, h1.short, b, Bool.and_self], ?_⟩
    simp only [PyData.bulkAll, List.length_cons]
    have := h1.bulk
    rw [Nat.mul_add]
    omega
theorem Rp.tup {k n m : Nat} {ds : List PyData} (h : ∀ d, d ∈ ds → Rp k n d) (hm : (n + 1) * ds.length ≤ m) : Rp (k + 1) m (.tuple ds) := by
  obtain ⟨a, b, c⟩ := rp_all h
  exact ⟨Sh.tup fun d hd => (h d hd).sh, by simp only [PyData.showable]; exact a, by simp only [PyData.leavesShort]; exact b, by simp only [PyData.bulk]; omega⟩
theorem Rp.lst {k n m : Nat} {ds : List PyData} (h : ∀ d, d ∈ ds → Rp k n d) (hm : (n + 1) * ds.length ≤ m) : Rp (k + 1) m (.list ds) := by
  obtain ⟨a, b, c⟩ := rp_all h
  exact ⟨Sh.lst fun d hd => (h d hd).sh, by simp only [PyData.showable]; exact a, by simp only [PyData.leavesShort]; exact b, by simp only [PyData.bulk]; omega⟩
theorem Rp.ints {ns : List Int} {k m : Nat} (h : ∀ i, i ∈ ns → i.natAbs < 1000000) (hm : ns.length ≤ m) : Rp (k + 1) m (.tuple (ns.map PyData.int)) :=
  Rp.tup (n := 0) (fun d hd => by obtain ⟨i, hi, rfl⟩ := List.mem_map.mp hd; exact .int (h i hi)) (by rw [List.length_map]; omega)
theorem Rp.bool {b : Bool} {k : Nat} : Rp k 0 (.bool b) := ⟨⟨by simp [PyData.canLay0], by simp [PyData.depth]⟩, by simp [PyData.showable], by simp [PyData.leavesShort], by simp [PyData.bulk]⟩
/-- repr(x), by data -/
theorem repr_read {K : PySem.W.Frag} {H : Hp} {x : V} {d : PyData} {Q : VK} {k n : Nat} (hd : Dp K H x d) (hs : Rp k n d) (hk : k ≤ 60) (hn : n ≤ 1048576) (q : Q (.str d.shown) H) : rReprD K [x] H Q :=
  ⟨x, d, rfl, hd, hs.sh.1, hs.shw, Nat.le_trans hs.sh.2 hk, PyData.shown_fits_bulk (B := 13) (by decide) (by decide) hs.short (Nat.le_trans hs.bulk (by omega)), q⟩
theorem Rp.all {k n : Nat} {d : PyData} (hs : Rp k n d) (hk : k ≤ 60) (hn : n ≤ 1048576) : d.canLay0 = true ∧ d.showable = true ∧ d.depth ≤ 60 ∧ d.shown.length ≤ sizeLine :=
  ⟨hs.sh.1, hs.shw, Nat.le_trans hs.sh.2 hk, PyData.shown_fits_bulk (B := 13) (by decide) (by decide) hs.short (Nat.le_trans hs.bulk (by omega))⟩
end MB

set_option maxHeartbeats 4000000
namespace MB
open PySem PySem.Spec PyProof.Rows L2
/-- data whose repr is asked: levels, size -/
structure RpW (k n : Nat) (d : PyData) : Prop where
  sh : Sh k d
  shw : d.showable = true
  short : d.leavesShort  75 = true
  bulk : d.bulk ≤ n
theorem RpW.mono {k n m : Nat} {d : PyData} (h : RpW k n d) (e : n ≤ m) : RpW k m d := ⟨h.sh, h.shw, h.short, Nat.le_trans h.bulk e⟩
theorem RpW.int {i : Int} {k : Nat} (h : i.natAbs < 10 ^ 70) : RpW k 0 (.int i) := by
  refine ⟨.int i, ?_, ?_, by simp [PyData.bulk]⟩
  · simp only [PyData.showable]
    refine decide_eq_true ?_
    by_cases h0 : i.natAbs = 0
    · rw [h0]; decide
    · exact Nat.lt_trans ((Nat.log2_lt h0).mpr (show i.natAbs < 2 ^ 240 by exact Nat.lt_trans h (by decide +kernel))) (by decide)
  · simp only [PyData.leavesShort]
    refine decide_eq_true ?_
    have e := int_text_length_le10 (a := i) (k := 70) (by decide) h
    have e2 : (PyData.shown (.int i)).length = (toString i).length := by
      simp only [PyData.shown]
      exact PySem.ofString_length _
    omega
theorem rpW_all {k n : Nat} : ∀ {ds : List PyData}, (∀ d, d ∈ ds → RpW k n d) → PyData.showableAll ds = true ∧ PyData.leavesShortAll  75 ds = true ∧ PyData.bulkAll ds ≤ (n + 1) * ds.length
  | [], _ => ⟨by simp [PyData.showableAll], by simp [PyData.leavesShortAll], by simp [PyData.bulkAll]⟩
  | d :: ds, h => by
    have h1 := h d (List.mem_cons_self ..)
    obtain ⟨a, b, c⟩ := rpW_all fun e he => h e (List.mem_cons_of_mem _ he)
    refine ⟨by simp only [PyData.showableAll, h1.shw, a, Bool.and_self], by simp only [PyData.leavesShortAll, h1.short, b, Bool.and_self], ?_⟩
    simp only [PyData.bulkAll, List.length_cons]
    have := h1.bulk
    rw [Nat.mul_add]
    omega
theorem RpW.tup {k n m : Nat} {ds : List PyData} (h : ∀ d, d ∈ ds → RpW k n d) (hm : (n + 1) * ds.length ≤ m) : RpW (k + 1) m (.tuple ds) := by
  obtain ⟨a, b, c⟩ := rpW_all h
  exact ⟨Sh.tup fun d hd => (h d hd).sh, by simp only [PyData.showable]; exact a, by simp only [PyData.leavesShort]; exact b, by simp only [PyData.bulk]; omega⟩
theorem RpW.lst {k n m : Nat} {ds : List PyData} (h : ∀ d, d ∈ ds → RpW k n d) (hm : (n + 1) * ds.length ≤ m) : RpW (k + 1) m (.list ds) := by
  obtain ⟨a, b, c⟩ := rpW_all h
  exact ⟨Sh.lst fun d hd => (h d hd).sh, by simp only [PyData.showable]; exact a, by simp only [PyData.leavesShort]; exact b, by simp only [PyData.bulk]; omega⟩
theorem RpW.ints {ns : List Int} {k m : Nat} (h : ∀ i, i ∈ ns → i.natAbs < 10 ^ 70) (hm : ns.length ≤ m) : RpW (k + 1) m (.tuple (ns.map PyData.int)) :=
  RpW.tup (n := 0) (fun d hd => by obtain ⟨i, hi, rfl⟩ := List.mem_map.mp hd; exact .int (h i hi)) (by rw [List.length_map]; omega)
theorem RpW.bool {b : Bool} {k : Nat} : RpW k 0 (.bool b) := ⟨⟨by simp [PyData.canLay0], by simp [PyData.depth]⟩, by simp [PyData.showable], by simp [PyData.leavesShort], by simp [PyData.bulk]⟩
theorem fits75 {d : PyData} (hl : d.leavesShort 75 = true) (hw : d.bulk ≤ 100000) : d.shown.length ≤ sizeLine := by
  have h := PyData.shown_le_bulk 75 (by decide) d hl
  have h2 : (75 + 2) * d.bulk ≤ 77 * 100000 := Nat.mul_le_mul (by omega) (by omega)
  have e : sizeLine = 16777216 := by decide
  omega
/-- repr(x), by data -/
theorem reprW_read {K : PySem.W.Frag} {H : Hp} {x : V} {d : PyData} {Q : VK} {k n : Nat} (hd : Dp K H x d) (hs : RpW k n d) (hk : k ≤ 60) (hn : n ≤ 100000) (q : Q (.str d.shown) H) : rReprD K [x] H Q :=
  ⟨x, d, rfl, hd, hs.sh.1, hs.shw, Nat.le_trans hs.sh.2 hk, fits75 hs.short (Nat.le_trans hs.bulk hn), q⟩
theorem RpW.all {k n : Nat} {d : PyData} (hs : RpW k n d) (hk : k ≤ 60) (hn : n ≤ 100000) : d.canLay0 = true ∧ d.showable = true ∧ d.depth ≤ 60 ∧ d.shown.length ≤ sizeLine :=
  ⟨hs.sh.1, hs.shw, Nat.le_trans hs.sh.2 hk, fits75 hs.short (Nat.le_trans hs.bulk hn)⟩
end MB

set_option maxHeartbeats 4000000
namespace MB
open PySem PySem.Spec PyProof.Rows L2
/-! ### data of any kind, dicts among them -/
def kD : Key → PyData
  | .inl i => .int i
  | .inr x => .str x
mutual
inductive Dq (K : PySem.W.Frag) (H : Hp) : V → PyData → Prop
  | nonq : Dq K H .non .none
  | blq (b : Bool) : Dq K H (.bl b) (.bool b)
  | intq (i : Int) : Dq K H (.int i) (.int i)
  | strq (x : Str) : Dq K H (.str x) (.str x)
  | lstq {a : Addr} {xs : List V} {ds : List PyData} : SqL K H a xs → a ≠ sysModules → DqAll K H xs ds → Dq K H (.ref a) (.list ds)
  | tupq {a : Addr} {xs : List V} {ds : List PyData} : SqT K H a xs → DqAll K H xs ds → Dq K H (.ref a) (.tuple ds)
  | dctq {a : Addr} {kvs : List (Key × V)} {des : List (PyData × PyData)} : H a = some (.dK kvs) → des.map (·.1) = kvs.map (fun p => kD p.1) → DqAll K H (kvs.map (·.2)) (des.map (·.2)) → Dq K H (.ref a) (.dict des)
inductive DqAll (K : PySem.W.Frag) (H : Hp) : List V → List PyData → Prop
  | nil : DqAll K H [] []
  | cons {v : V} {vs : List V} {d : PyData} {ds : List PyData} : Dq K H v d → DqAll K H vs ds → DqAll K H (v :: vs) (d :: ds)
end
section
variable {X : Cx} {pins : List (Addr × Obj)} {σ : L2.St} {H : Hp} {s : Shared}
theorem keys_read {h : Heap} {P : Program} {w : World} {es : List DictEntry} {vs : List (Key × Value)} (hp : Pairs (mixKind P w) es vs) : ∀ {kvs : List (Key × V)}, KV kvs vs →
    ReadsAll h (es.map (·.key)) (kvs.map fun p => kD p.1) [] ∧ Vals (kvs.map (·.2)) (es.map (·.val)) := by
  induction hp with
  | nil => intro kvs r; cases r; exact ⟨.nil, .nil⟩
  | @cons e kv es vs a b c ih =>
    intro kvs r
    cases r with
    | @cons p _ ps _ r t =>
      obtain ⟨h1, h2⟩ := ih t
      obtain ⟨r1, r2⟩ := r
      have r3 : RelV p.2 e.val := by rw [b]; exact r2
      refine ⟨?_, .cons r3 h2⟩
      have e1 : keyIs kv.1 e.key = true := a
      rw [List.map_cons, List.map_cons, r1]
      rcases keyIs_shape e1 with ⟨i, t, h3, h4⟩ | ⟨x, t, h3, h4⟩
      · rw [h3, h4]; exact ReadsAll.cons (as := []) (bs := []) (.int i t) h1
      · rw [h3, h4]; exact ReadsAll.cons (as := []) (bs := []) (.str x t) h1
theorem Dq.reads (I : Inv X pins σ H s) {d : PyData} {v : V} (hq : Dq X.K H v d) : ∀ u : Value, RelV v u → ∃ as, Reads s.heap u d as ∧ sysModules ∉ as := by
  refine Dq.rec (motive_1 := fun v d _ => ∀ u : Value, RelV v u → ∃ as, Reads s.heap u d as ∧ sysModules ∉ as) (motive_2 := fun vs ds _ => ∀ us : List Value, Vals vs us → ∃ as, ReadsAll s.heap us ds as ∧ sysModules ∉ as) ?_ ?_ ?_ ?_ ?_ ?_ ?_ ?_ ?_ hq
  · intro u r; cases r; exact ⟨_, .none, by simp⟩
  · intro b u r; cases r; exact ⟨_, .bool b, by simp⟩
  · intro i u r; obtain ⟨t, rfl⟩ := r; exact ⟨_, .int i t, by simp⟩
  · intro x u r; obtain ⟨t, rfl⟩ := r; exact ⟨_, .str x t, by simp⟩
  · intro a xs ds hs hne _ ih u r
    cases r
    obtain ⟨its, rv, ⟨o, n, h1, h2, h3, h4⟩, _⟩ := I.list hs
    obtain ⟨as, ra, na⟩ := ih _ rv
    refine ⟨_, .list h1 h2 h4 (by simpa using ra), ?_⟩
    intro hm
    rcases List.mem_cons.mp hm with e | e
    · exact hne e.symm
    · exact na e
  · intro a xs ds hs _ ih u r
    cases r
    obtain ⟨its, rv, ⟨o, h1, h2, n, h3⟩, _⟩ := I.tuple hs
    obtain ⟨as, ra, na⟩ := ih _ rv
    exact ⟨_, .tuple h1 h2 h3 (by simpa using ra), na⟩
  · intro a kvs des he hk _ ih u r
    cases r
    obtain ⟨_, hsys, vs, kv, o, es, ep, h1, h2, h3, _, h5, _⟩ := dk_of I.hok he
    obtain ⟨g1, g2⟩ := keys_read (h := s.heap) h5 kv
    obtain ⟨bs, rb, nb⟩ := ih _ g2
    refine ⟨_, .dict h1 h2.1 h3 (by rw [hk]; exact g1) rb, ?_⟩
    intro hm
    rcases List.mem_cons.mp hm with e | e
    · rw [← e] at hsys; simp at hsys
    · exact nb (by simpa using e)
  · intro us t; cases t; exact ⟨_, .nil, by simp⟩
  · intro v vs d ds _ _ h1 h2 us t
    cases t with
    | cons r t =>
      obtain ⟨as, g1, n1⟩ := h1 _ r
      obtain ⟨bs, g2, n2⟩ := h2 _ t
      exact ⟨_, .cons g1 g2, by simp [n1, n2]⟩
end
theorem Dq.same {K : PySem.W.Frag} {H H' : Hp} (e : Same H H') {v : V} {d : PyData} (h : Dq K H v d) : Dq K H' v d := by
  refine Dq.rec (motive_1 := fun v d _ => Dq K H' v d) (motive_2 := fun vs ds _ => DqAll K H' vs ds) ?_ ?_ ?_ ?_ ?_ ?_ ?_ ?_ ?_ h
  · exact .nonq
  · intro b; exact .blq b
  · intro i; exact .intq i
  · intro x; exact .strq x
  · intro a xs ds hs hne _ ih; exact .lstq (e.seq hs) hne ih
  · intro a xs ds hs _ ih; exact .tupq (Same.tup e hs) ih
  · intro a kvs des he hk _ ih; exact .dctq (e _ _ he) hk ih
  · exact .nil
  · intro v vs d ds _ _ h1 h2; exact .cons h1 h2
theorem DqAll.same {K : PySem.W.Frag} {H H' : Hp} (e : Same H H') : ∀ {vs : List V} {ds : List PyData}, DqAll K H vs ds → DqAll K H' vs ds
  | _, _, .nil => .nil
  | _, _, .cons a b => .cons (Dq.same e a) (DqAll.same e b)
/-! ### repr -/
def rReprQ (K : PySem.W.Frag) : List V → Hp → VK → Prop := fun xs H Q => ∃ (x : V) (d : PyData), xs = [x] ∧ Dq K H x d ∧ d.showable = true ∧ d.depth ≤ 60 ∧ d.shown.length ≤ sizeLine ∧ Q (.str d.shown) H
theorem call_reprQ {X : Cx} (hgd : X.A.guards = some []) (hu : X.A.units + 64 < cLine) : CallR X (.builtin "repr") (rReprQ X.K) := by
  intro pins s σ H xs us Q I r h
  obtain ⟨x, d, rfl, hd, hs, hdep, hz, q⟩ := h
  obtain ⟨u, rfl, rx⟩ := vals1 r
  obtain ⟨as, rd, nsys⟩ := Dq.reads I hd u rx
  have fin : ∀ (h' : Heap) (v tk : Tok), (∀ b o, s.heap.get? b = some o → h'.get? b = some o) → EP X pins σ Q (.str d.shown v) { s with heap := h', toks := tk } := fun h' v tk hk => ⟨.str d.shown, H, I.kept hk, ⟨_, rfl⟩, q⟩
  cases rd with
  | none => exact PySem.P.repr_of_none (fin _ _ _ fun _ _ e => e)
  | bool b =>
    refine PySem.P.repr_of_bool ?_
    cases b <;> exact fin s.heap s.toks (s.toks + 1) fun _ _ e => e
  | int i t => exact PySem.P.repr_of_int (by simpa [PyData.showable] using hs) (fin s.heap s.toks (s.toks + 1) fun _ _ e => e)
  | str y t => exact PySem.P.repr_of_str (fin s.heap s.toks (s.toks + 1) fun _ _ e => e) hz
  | list h1 h2 h3 h4 => exact repr_of_reads' (.list h1 h2 h3 h4) hs (fun _ => nsys) hgd (by omega) (fun _ _ e => e) fin hz
  | tuple h1 h2 h3 h4 => exact repr_of_reads' (.tuple h1 h2 h3 h4) hs (fun _ => nsys) hgd (by omega) (fun _ _ e => e) fin hz
  | dict h1 h2 h3 h4 h5 => exact repr_of_reads' (.dict h1 h2 h3 h4 h5) hs (fun _ => nsys) hgd (by omega) (fun _ _ e => e) fin hz
theorem k_reprQ {X : Cx} {K : PySem.W.Frag} (e : X.K = K) (hgd : X.A.guards = some []) (hu : X.A.units + 64 < cLine) : CallR X (.builtin "repr") (rReprQ K) := by
  rw [← e]; exact call_reprQ hgd hu
end MB

set_option maxHeartbeats 4000000
namespace MB
open PySem PySem.Spec PyProof.Rows L2

/-! ### f(p = v), no value by position -/
def gK {α : Type} (us ws : List α) : List α := match us with
  | [] => ws
  | _ :: _ => []
section
variable {X : Cx} {CX : CXT} {k : Nat} {f : Addr} {fd : FuncData} {ps ks : List Str} {sp : Sp} {E : XK} {x : Str} {p pos : Pos} {kws : List Keyword} {tk : TA} {g : List Value → List Value → List Value} {gV : List V → List V → List V}
theorem pe_callK0 (F : FnOk X.prog X.w X.K X.mg X.base CX k f fd ps sp) (hr : Room k X.A) (hg : Gl X x) (hm : X.mg x = some (.ref f)) (hk : PySem.W.keepIn X.K (.ref f) = true) (hb : KBinds X.K fd ps ks g gV) (hx : Passes CX X E)
    (hkw : PK X kws tk) (hall : (backToKw pos (keywordEach kws X.env)).all (·.1.isSome) = true := by rfl) (hks : (backToKw pos (keywordEach kws X.env)).filterMap (·.1) = ks := by rfl)
    (hdb : (x == ("__debug__" : Str)) = false := by decide)
    (hpl : ((backTo pos (starEach [] X.env)).any (·.1) || (backToKw pos (keywordEach kws X.env)).any (·.1.isNone)) = false := by rfl) :
    PE X (.Call (.Name x p) [] kws pos) (tCallK sp gV E tNil tk) := by
  refine ⟨fun pins s σ H Q I h => ?_⟩
  refine wpAny_Call_Name_kw (ld_glob I hg hm ?_ hdb)
  refine PySem.W.callWith_KW0 (h₀ := X.base) I.ok.mod.kin hk hall ?_ hpl
  refine thn (hkw.run pos pins s σ H _ I h) fun ws s2 ⟨zs, H2, I2, rz, q2⟩ => ⟨I2.kIn, ?_⟩
  rw [hks]
  exact run_fnk (us := []) (vs := []) F hr hb hx I2 .nil rz q2
end
theorem kb1 {K : PySem.W.Frag} {x qual : Str} {st : Stmt} {f : Addr} {fd : FuncData} {q : Str} (F : L2.Fun K x qual st f fd)
    (h : ∀ (kV doc pm : Value) (an : Option Addr) (cdv ct u : Value), bindArgs (PySem.W.fnOf x qual (defArgs st) (defBody st) (defScope st) .none kV doc pm an cdv ct) ⟨[], [(q, u)]⟩ = pure [(q, u)]) : KBinds K fd [q] [q] gK gK := by
  obtain ⟨oc, od, kV, doc, pm, an, cdv, ct, osl, rfl, lk, hcd⟩ := F.ex
  refine ⟨fun s us ws _ hl => ?_, fun {vs us zs ws} r1 r2 => ?_⟩
  · cases us with
    | cons u us => exact nomatch hl
    | nil =>
      match ws, hl with
      | [u], _ => exact .of_eq (h kV doc pm an cdv ct u)
  · cases r1 with
    | nil => exact r2
    | cons _ _ => exact .nil

/-! ### a comprehension with a test -/
theorem lc_sel {K : PySem.W.Frag} {J : It} {n : Nat} {G : Hp → Prop} {Y : Nat → Hp → V → Hp → Prop} (w : Walk J n G Y) {g : TG} {tt : TT} {te : TE} {vs : List Nat} {σ : L2.St} {H1 : Hp} {D : Addr} {Qd : Hp → Prop}
    (f : Nat → Bool) (d : Nat → PyData) (ht : ∀ i, i < n → Tf (d i)) (hn : n ≤ 1000) (hD : H1 D = none) (hG : ∀ H, Same H1 H → G H)
    (hs : ∀ i x H H', i < n → Same H1 H → Y i H x H' → ∀ R : V → Hp → Prop, (∀ y H4, Same H H4 → Dp K H4 y (d i) → R y H4) →
      g x (wipe σ vs) H' fun σ2 H2 => wipe σ2 vs = wipe σ vs ∧ tt σ2 H2 fun b H3 => b = f i ∧ Same H H3 ∧ (b = true → te σ2 H3 R))
    (hd : ∀ H acc, Same H1 H → H D = some (.lst acc) → DpAll K H acc (((List.range n).filter f).map d) → Qd H)
    (mg : ∀ x σ' H' (Q Q' : L2.St → Hp → Prop), (∀ a b, Q a b → Q' a b) → g x σ' H' Q → g x σ' H' Q') (mt : ∀ σ' H' (Q Q' : Bool → Hp → Prop), (∀ a b, Q a b → Q' a b) → tt σ' H' Q → tt σ' H' Q') :
    ∃ W : Nat → Nat → Hp → Prop, (∃ m, W 0 m (upd H1 D (.lst []))) ∧ ∀ i m H, W i m H →
      (J.stop i H ∧ Qd H) ∨ (J.go i H ∧ ∃ Nx : Hp → Prop, (∀ H', Nx H' → ∃ m', m' < m ∧ W (i + 1) m' H') ∧ ∀ x H', J.yld i H x H' → g x (wipe σ vs) H' fun σ2 H2 => wipe σ2 vs = wipe σ vs ∧ tt σ2 H2 fun b H3 =>
        if b = true then te σ2 H3 fun y H4 => ∃ acc, H4 D = some (.lst acc) ∧ acc.length < sizeLine ∧ Nx (upd H4 D (.lst (acc ++ [y]))) else Nx H3) := by
  refine lc_it w (fun i H => Same H1 H ∧ ∃ acc, H D = some (.lst acc) ∧ DpAll K H acc (((List.range i).filter f).map d)) ⟨same_upd hD, [], upd_same, .nil⟩ (fun i H _ h => hG H h.1) ?_ ?_
  · rintro i x H H' hi ⟨s1, acc, ha, hA⟩ hy
    have hlen := DpAll.len hA
    have hle : acc.length ≤ i := by
      rw [hlen, List.length_map]
      have := List.length_filter_le f (List.range i)
      rw [List.length_range] at this
      exact this
    refine mg _ _ _ _ _ ?_ (hs i x H H' hi s1 hy (fun y H4 => ∃ acc, H4 D = some (.lst acc) ∧ acc.length < sizeLine ∧ (f i = true → Same H1 (upd H4 D (.lst (acc ++ [y]))) ∧ ∃ acc', (upd H4 D (.lst (acc ++ [y]))) D = some (.lst acc') ∧ DpAll K (upd H4 D (.lst (acc ++ [y]))) acc' (((List.range (i + 1)).filter f).map d))) ?_)
    · rintro σ2 H2 ⟨h1, h2⟩
      refine ⟨h1, mt _ _ _ _ ?_ h2⟩
      rintro b H3 ⟨hb, s3, h3⟩
      cases b with
      | true =>
        refine iteT ?_
        have h4 := h3 rfl
        have hb' := hb.symm
        simp only [hb', true_implies] at h4
        exact h4
      | false =>
        refine iteF ⟨s1.trans s3, acc, s3 _ _ ha, ?_⟩
        rw [List.range_succ, List.filter_append, List.map_append]
        have e : List.filter f [i] = [] := by rw [List.filter_cons, if_neg (by rw [← hb]; decide)]; rfl
        rw [e, List.map_nil, List.append_nil]
        exact DpAll.same s3 hA
    · intro y H4 s4 hy4
      refine ⟨acc, s4 _ _ ha, sz61 (by omega), fun hf => ⟨Same.mut (s1.trans s4) hD, acc ++ [y], upd_same, ?_⟩⟩
      have kp : Keep K H4 (upd H4 D (.lst (acc ++ [y]))) := But.keep But.upd (s4 _ _ ha)
      have e : List.filter f [i] = [i] := by rw [List.filter_cons, if_pos hf]; rfl
      rw [List.range_succ, List.filter_append, List.map_append, e]
      refine DpAll.keep kp (fun d' h => ?_) (DpAll.append (DpAll.same s4 hA) (.cons hy4 .nil))
      rcases List.mem_append.mp h with h | h
      · obtain ⟨j, hj, rfl⟩ := List.mem_map.mp h
        have := List.mem_range.mp (List.mem_filter.mp hj).1
        exact ht j (by omega)
      · have e : d' = d i := by simpa using h
        rw [e]; exact ht i hi
  · rintro H ⟨s1, acc, ha, hA⟩
    exact hd H acc s1 ha hA
end MB

set_option maxHeartbeats 4000000
namespace MB
open PySem PySem.Spec PyProof.Rows L2
/-! ### x *= e -/
theorem ip_mulW {X : Cx} : PIp X .Mult (fun x y H Q => ∃ i j, x = .int i ∧ y = .int j ∧ CMulW i j ∧ Q (.int (i * j)) H) := by
  intro pins s σ H x y v u Q I r1 r2 h
  obtain ⟨i, j, e1, e2, hc, q⟩ := h
  subst e1; subst e2
  obtain ⟨t, rfl⟩ := r1
  obtain ⟨t', rfl⟩ := r2
  exact imul_int ⟨.int _, H, I.tok _, ⟨_, rfl⟩, q⟩ hc.ok
/-! ### f(q = v, p = w): by keywords in any order -/
def gP {α : Type} (idx : List Nat) (us ws : List α) : List α := match us with
  | [] => idx.filterMap fun i => ws[i]?
  | _ :: _ => []
theorem gP_take {α : Type} {n : Nat} {ws : List α} : ∀ {idx : List Nat}, (∀ i, i ∈ idx → i < n) → (idx.filterMap fun i => (ws.take n)[i]?) = idx.filterMap fun i => ws[i]?
  | [], _ => rfl
  | i :: idx, h => by
    have h1 := h i (List.mem_cons_self ..)
    have h2 := gP_take (α := α) (n := n) (ws := ws) (idx := idx) fun j hj => h j (List.mem_cons_of_mem _ hj)
    rw [List.filterMap_cons, List.filterMap_cons, h2, List.getElem?_take, if_pos h1]
theorem gP_len {α : Type} {ws : List α} : ∀ {idx : List Nat}, (idx.filterMap fun i => ws[i]?).length = idx.length → ∀ i, i ∈ idx → i < ws.length
  | [], _, i, h => nomatch h
  | j :: idx, hl, i, h => by
    cases e : ws[j]? with
    | none =>
      simp only [List.filterMap_cons, e] at hl
      have := List.length_filterMap_le (fun i => ws[i]?) idx
      simp only [List.length_cons] at hl
      omega
    | some x =>
      simp only [List.filterMap_cons, e, List.length_cons, Nat.add_right_cancel_iff] at hl
      rcases List.mem_cons.mp h with h | h
      · subst h
        exact (List.getElem?_eq_some_iff.mp e).1
      · exact gP_len hl i h
theorem gP_rel {zs : List V} {ws : List Value} (r : Vals zs ws) : ∀ idx : List Nat, Vals (idx.filterMap fun i => zs[i]?) (idx.filterMap fun i => ws[i]?)
  | [] => .nil
  | i :: idx => by
    have ih := gP_rel r idx
    cases e : zs[i]? with
    | none =>
      have e2 : ws[i]? = none := List.getElem?_eq_none (by rw [← r.length]; exact List.getElem?_eq_none_iff.mp e)
      simp only [List.filterMap_cons, e, e2]; exact ih
    | some x =>
      obtain ⟨u, e2, ru⟩ := r.get e
      simp only [List.filterMap_cons, e, e2]; exact .cons ru ih
theorem zip_take {α β : Type} : ∀ (ks : List α) (ws : List β), ks.zip (ws.take ks.length) = ks.zip ws
  | [], _ => rfl
  | _ :: _, [] => rfl
  | k :: ks, w :: ws => by simp [zip_take ks ws]
theorem kbP {K : PySem.W.Frag} {x qual : Str} {st : Stmt} {f : Addr} {fd : FuncData} {ps ks : List Str} {idx : List Nat} (F : L2.Fun K x qual st f fd) (hi : idx.length = ps.length) (hk : ks.length = ps.length) (hp : 0 < ps.length)
    (hall : (∀ i, i ∈ idx → i < ps.length) ∧ ps.length - 1 ∈ idx)
    (h : ∀ (kV doc pm : Value) (an : Option Addr) (cdv ct : Value) (ws : List Value), ws.length = ps.length → bindArgs (PySem.W.fnOf x qual (defArgs st) (defBody st) (defScope st) .none kV doc pm an cdv ct) ⟨[], ks.zip ws⟩ = pure (ps.zip (gP idx [] ws))) : KBinds K fd ps ks (gP idx) (gP idx) := by
  obtain ⟨oc, od, kV, doc, pm, an, cdv, ct, osl, rfl, lk, hcd⟩ := F.ex
  refine ⟨fun s us ws _ hl => ?_, fun {vs us zs ws} r1 r2 => ?_⟩
  · cases us with
    | cons u us =>
      have : 0 = ps.length := hl
      omega
    | nil =>
      have hl' : (idx.filterMap fun i => ws[i]?).length = idx.length := by rw [hi]; exact hl
      have h2 := gP_len hl' _ hall.2
      have h3 := h kV doc pm an cdv ct (ws.take ps.length) (by rw [List.length_take]; omega)
      have e1 : gP idx [] (ws.take ps.length) = gP idx [] ws := gP_take hall.1
      have e2 : ks.zip (ws.take ps.length) = ks.zip ws := by
        rw [← hk]
        exact zip_take ks ws
      rw [e1, e2] at h3
      exact .of_eq h3
  · cases r1 with
    | nil => exact gP_rel r2 idx
    | cons _ _ => exact .nil
section
variable {X : Cx} {CX : CXT} {k : Nat} {f : Addr} {fd : FuncData} {ps ks : List Str} {sp : Sp} {E : XK} {x : Str} {p pos : Pos} {kws : List Keyword} {tk : TA} {g : List Value → List Value → List Value} {gV : List V → List V → List V}
end
end MB

set_option maxHeartbeats 4000000
namespace MB
open PySem PySem.Spec PyProof.Rows L2
def clsDef (s : Stmt) : Stmt := match s with
  | .ClassDef _ _ _ b _ _ _ _ _ _ _ => b.getD 0 (.Pass ⟨0, 0, 0, 0⟩)
  | t => t
/-! ### own exceptions as values -/
/-- at a: a caught exception, of the class cls, its dict at d -/
def KeO (a : Addr) (cls : Value) (d : Option Addr) : HO := .ext fun h => ∃ oe vs, h.get? a = some oe ∧ oe.cls = cls ∧ oe.dict = d ∧ oe.data = .fields vs
theorem keO_ok {P : Program} {w : World} {H : Hp} {h : Heap} {a : Addr} {cls : Value} {d : Option Addr} {oe : Obj} {vs : Array Value} (e : h.get? a = some oe) (hc : oe.cls = cls) (hd : oe.dict = d) (hf : oe.data = .fields vs) : ObjOk P w H h a (KeO a cls d) :=
  ⟨⟨oe, vs, e, hc, hd, hf⟩, ⟨oe, e⟩, fun h1 h2 ⟨o1, v1, q1, q2⟩ k => ⟨o1, v1, k _ q1, q2⟩⟩
/-- at a: an own exception of the class at C; with a dict that holds fs, or with none -/
inductive XAt (H : Hp) (a C : Addr) : Option (List (Str × V)) → Prop
  | full {d : Addr} {fs : List (Str × V)} : H a = some (exo a C (some d)) → H d = some (exd d fs) → XAt H a C (some fs)
  | bare : H a = some (ExO (.ref C) a) → XAt H a C none
  | kept {d : Addr} {fs : List (Str × V)} : H a = some (KeO a (.ref C) (some d)) → H d = some (exd d fs) → XAt H a C (some fs)
  | keptd {d : Addr} {fs : List (Str × V)} : H a = some (KeO a (.ref C) (some d)) → H d = some (.xd fs) → XAt H a C (some fs)
theorem XAt.same {H H' : Hp} {a C : Addr} {o : Option (List (Str × V))} (e : Same H H') (h : XAt H a C o) : XAt H' a C o := by
  cases h with
  | full h1 h2 => exact .full (e _ _ h1) (e _ _ h2)
  | bare h1 => exact .bare (e _ _ h1)
  | kept h1 h2 => exact .kept (e _ _ h1) (e _ _ h2)
  | keptd h1 h2 => exact .keptd (e _ _ h1) (e _ _ h2)
theorem keO_at {P : Program} {w : World} {H : Hp} {h : Heap} {a C : Addr} {d : Option Addr} (k : HOk P w H h) (e : H a = some (KeO a (.ref C) d)) : ∃ o vs, h.get? a = some o ∧ o.cls = .ref C ∧ o.dict = d ∧ o.data = .fields vs := by
  obtain ⟨⟨o, vs, q1, q2, q3, q4⟩, _⟩ := k a _ e
  exact ⟨o, vs, q1, q2, q3, q4⟩
section
variable {X : Cx} {pins : List (Addr × Obj)} {σ : L2.St} {H : Hp} {s : Shared}
/-- x.f -/
def tXv (K : PySem.W.Frag) (f : Str) (te : TE) : TE := fun σ H Q => te σ H fun x H1 => ∃ (a C : Addr) (fs : List (Str × V)) (v : V), x = .ref a ∧ XAt H1 a C (some fs) ∧ XfC K C ∧ PySem.W.findIn K (.ref C) f = some none ∧ fs.lookup f = some v ∧ Q v H1
theorem pe_xv {e : Expr} {te : TE} {pos : Pos} {n : Str} (he : PE X e te) (hb : attributeBase e n X.env (eval e X.env) = eval e X.env := by rfl) : PE X (.Attribute e n pos) (tXv X.K n te) := by
  refine ⟨fun pins s σ H Q I h => ?_⟩
  refine attr_of hb (thn (he.run pins s σ H _ I h) fun u s1 hh => ?_)
  obtain ⟨x, H1, I1, rx, a, C, fs, v, ex, hx, T, hno, l, q⟩ := hh
  subst ex
  obtain rfl : u = Value.ref a := rx
  cases hx with
  | @full d _ ea ed =>
    obtain ⟨t1, ho⟩ := exo_at I1.hok ea
    obtain ⟨mA, hns, hr⟩ := exd_at I1.hok ed
    obtain ⟨od, hod, hl⟩ := lookIn_ns hns
    obtain ⟨z, hz, rz⟩ := RelO.some_of (v := v) (o := mA n) (by rw [← l]; exact hr n)
    have J : PySem.W.InstAt s1.heap a _ C (some od) := ⟨ho, rfl, rfl, hod⟩
    exact HandSPX.exc_get I1.kIn J T.ga T.gg T.exC (PySem.W.findObj_own T.hdC hno rfl (by rw [hl, hz])) (handed_of rz) ⟨v, H1, I1.tok _, rz, q⟩
  | @kept d _ ea ed =>
    obtain ⟨o, vs, ho, hcl, hdc, hfd⟩ := keO_at I1.hok ea
    obtain ⟨mA, hns, hr⟩ := exd_at I1.hok ed
    obtain ⟨od, hod, hl⟩ := lookIn_ns hns
    obtain ⟨z, hz, rz⟩ := RelO.some_of (v := v) (o := mA n) (by rw [← l]; exact hr n)
    obtain ⟨oc, odc, oda, osl⟩ := o
    dsimp only at hcl hdc hfd
    subst hcl hdc hfd
    have J : PySem.W.InstAt s1.heap a _ C (some od) := ⟨ho, rfl, rfl, hod⟩
    exact HandSPX.exc_get I1.kIn J T.ga T.gg T.exC (PySem.W.findObj_own T.hdC hno rfl (by rw [hl, hz])) (handed_of rz) ⟨v, H1, I1.tok _, rz, q⟩
  | @keptd d _ ea ed =>
    obtain ⟨o, vs, ho, hcl, hdc, hfd⟩ := keO_at I1.hok ea
    obtain ⟨mA, hns, hr⟩ := (show ObjOk X.prog X.w H1 s1.heap d (.xd _) from I1.hok d _ ed)
    obtain ⟨od, hod, hl⟩ := lookIn_ns hns
    obtain ⟨z, hz, rz⟩ := RelO.some_of (v := v) (o := mA n) (by rw [← l]; exact hr n)
    obtain ⟨oc, odc, oda, osl⟩ := o
    dsimp only at hcl hdc hfd
    subst hcl hdc hfd
    have J : PySem.W.InstAt s1.heap a _ C (some od) := ⟨ho, rfl, rfl, hod⟩
    exact HandSPX.exc_get I1.kIn J T.ga T.gg T.exC (PySem.W.findObj_own T.hdC hno rfl (by rw [hl, hz])) (handed_of rz) ⟨v, H1, I1.tok _, rz, q⟩
/-- isinstance(x, c) -/
def rIsX (K : PySem.W.Frag) : List V → Hp → VK → Prop := fun xs H Q => ∃ (a C : Addr) (o : Option (List (Str × V))) (c : V) (u : Value) (b : Bool), xs = [.ref a, c] ∧ ClsV c u ∧ XAt H a C o ∧ ExcC K C ∧ PySem.W.kitOne K (.ref C) u = some b ∧ Q (.bl b) H
theorem call_isX : CallR X (.builtin "isinstance") (rIsX X.K) := by
  intro pins s σ H xs us Q I r h
  obtain ⟨a, C, o, c, u, b, rfl, k, hx, T, e, q⟩ := h
  obtain ⟨u1, u2, rfl, r1, r2⟩ := vals2 r
  have e2 := k.eq r2
  subst e2
  cases r1
  have hcl : (PySem.W.clsIn X.K C).isSome = true := by
    obtain ⟨cd, hc, _⟩ := PySem.W.any_some T.hd
    rw [hc]; rfl
  have fin : ∀ tk, EP X pins σ Q (.bool b) { s with toks := tk } := fun tk => ⟨.bl b, H, I.tok tk, rfl, q⟩
  cases hx with
  | @full d fs ea ed =>
    obtain ⟨t1, ho⟩ := exo_at I.hok ea
    obtain ⟨mA, hns, hr⟩ := exd_at I.hok ed
    obtain ⟨od, hod, hl⟩ := lookIn_ns hns
    have J : PySem.W.InstAt s.heap a _ C (some od) := ⟨ho, rfl, rfl, hod⟩
    exact PySem.W.kia_one (PySem.W.kitx_exc hcl T.hg T.hk T.hs T.ha T.hn T.ht T.hm) I.kIn J e (fun z => nomatch z) fin
  | @kept d fs ea ed =>
    obtain ⟨o, vs, ho, hc1, hdc, hfd⟩ := keO_at I.hok ea
    obtain ⟨mA, hns, hr⟩ := exd_at I.hok ed
    obtain ⟨od, hod, hl⟩ := lookIn_ns hns
    obtain ⟨oc, odc, oda, osl⟩ := o
    dsimp only at hc1 hdc hfd
    subst hc1 hdc hfd
    have J : PySem.W.InstAt s.heap a _ C (some od) := ⟨ho, rfl, rfl, hod⟩
    exact PySem.W.kia_one (PySem.W.kitx_exc hcl T.hg T.hk T.hs T.ha T.hn T.ht T.hm) I.kIn J e (fun z => nomatch z) fin
  | @keptd d fs ea ed =>
    obtain ⟨o, vs, ho, hc1, hdc, hfd⟩ := keO_at I.hok ea
    obtain ⟨mA, hns, hr⟩ := (show ObjOk X.prog X.w H s.heap d (.xd fs) from I.hok d _ ed)
    obtain ⟨od, hod, hl⟩ := lookIn_ns hns
    obtain ⟨oc, odc, oda, osl⟩ := o
    dsimp only at hc1 hdc hfd
    subst hc1 hdc hfd
    have J : PySem.W.InstAt s.heap a _ C (some od) := ⟨ho, rfl, rfl, hod⟩
    exact PySem.W.kia_one (PySem.W.kitx_exc hcl T.hg T.hk T.hs T.ha T.hn T.ht T.hm) I.kIn J e (fun z => nomatch z) fin
  | bare ea =>
    obtain ⟨⟨oe, vs, ho, hz, hd, _⟩, _⟩ := I.hok a _ ea
    have J : PySem.W.InstAt s.heap a oe C none := by
      obtain ⟨oc, od, oda, osl⟩ := oe
      obtain ⟨z1, z2⟩ := hz
      dsimp only at z1 z2 hd
      subst z1 z2 hd
      exact ⟨ho, rfl, rfl, trivial⟩
    exact PySem.W.kia_one (PySem.W.kitx_exc hcl T.hg T.hk T.hs T.ha T.hn T.ht T.hm) I.kIn J e (fun z => nomatch z) fin
/-- C(e), the class's own __init__ keeping sp: the object stands -/
def tMkX (C : Addr) (sp : Sp) (ta : TA) : TE := fun σ H Q => ta σ H fun vs H1 => vs.length ≤ 1000 ∧ ∀ a, H1 a = none → sp (.ref a :: vs) (upd H1 a (exo a C none)) (fun v H2 => v = .non ∧ Q (.ref a) H2) E0
theorem pe_mkX {x : Str} {C fI : Addr} {k : Nat} {fd : FuncData} {ps : List Str} {sp : Sp} {e : Expr} {es : List Expr} {ta : TA} {p pos : Pos} (T : OexC X.K C) (iC : PySem.W.findIn X.K (.ref C) "__init__" = some (some (.ref fI))) (tI : PySem.W.typeIn X.K (.ref fI) = some (.type "function"))
    (F1 : FnOk X.prog X.w X.K X.mg X.base CX0 k fI fd ps sp) (hr : Room (k + 1) X.A) (hb : Binds X.K fd ps []) (hg : Gl X x) (hm : X.mg x = some (.ref C)) (ha : PA X (e :: es) ta) (hx : Passes CX0 X E0)
    (hdb : (x == ("__debug__" : Str)) = false := by decide) (he : starEach (e :: es) X.env = (false, eval e X.env) :: starEach es X.env := by rfl) (hpl : (backTo pos (starEach es X.env)).any (·.1) = false := by rfl) :
    PE X (.Call (.Name x p) (e :: es) [] pos) (tMkX C sp ta) := by
  refine ⟨fun pins s σ H Q I h => ?_⟩
  obtain ⟨nm, qn, N, bs, bm, sn, sub, ab, col, dd, k0, k1, k2, k3, k5, hC, hbm⟩ := T.cls
  refine wpAny_Call_Name_kw (ld_glob I hg hm ?_ hdb)
  refine PySem.W.callWith_K (h₀ := X.base) I.ok.mod.kin T.kC (thn (ha.run pos pins s σ H _ I h) fun us s1 ⟨vs, H1, I1, r1, hz, q1⟩ => ⟨I1.kIn, ?_⟩) he hpl
  show wpAny _ _ (call (.ref C) us) _ _ _
  obtain ⟨hp, gs, dr, tk, os⟩ := s1
  have fresh : H1 (hp.objs.size + 1) = none := I1.hok.fresh (Nat.le_succ _)
  have hq := q1 _ fresh
  have there : ((hp.push (PySem.W.kdv_tup us)).push (PySem.HandSPX.excO C hp.objs.size)).get? (hp.objs.size + 1) = some (PySem.HandSPX.excO C hp.objs.size) := by heap_get
  have J : Inv X pins σ (upd H1 (hp.objs.size + 1) (exo (hp.objs.size + 1) C none)) ⟨(hp.push (PySem.W.kdv_tup us)).push (PySem.HandSPX.excO C hp.objs.size), gs, dr, tk, os⟩ :=
    I1.laid (t' := tk) (fun b o z => Heap.get?_push_of_some _ (Heap.get?_push_of_some _ z)) (Nat.le_succ _) (exo_ok there)
  have r2 : Vals (V.ref (hp.objs.size + 1) :: vs) (Value.ref (hp.objs.size + 1) :: us) := .cons rfl r1
  have hl : (Value.ref (hp.objs.size + 1) :: us).length = ps.length := r2.length.symm.trans (F1.len _ _ _ _ hq)
  have hus : us.length ≤ sizeLine := by rw [← Paired.length r1, sizeLine_eq]; omega
  have bnd := hb ⟨(hp.push (PySem.W.kdv_tup us)).push (PySem.HandSPX.excO C hp.objs.size), gs, dr, tk, os⟩ (Value.ref (hp.objs.size + 1) :: us) J.kIn (by rw [List.append_nil]; exact hl)
  rw [List.append_nil] at bnd
  refine wpAny_call (PySem.HandSPX.call_own F.excBase_ValueError (fun Y => PySem.HandSPX.refsVE_contains Y bm hbm) (I1.kIn _ _ hC) (PySem.W.looks_findIn I1.kIn iC) (fun self => PySem.W.bind_fn I1.kIn self tI) hus
    (codeAny_mono (F1.run _ X.stack _ _ ⟨Value.ref (hp.objs.size + 1) :: us, []⟩ (Value.ref (hp.objs.size + 1) :: us) _ _ E0 (hr.make C us []) (J.env0.make C us []) bnd r2 hq) fun res s' back => ?_))
  rcases res with er | fl
  · exact hx pins σ _ _ er s' J back
  · rcases fl with _ | _ | _ | u
    · exact False.elim back
    · exact False.elim back
    · exact False.elim back
    · obtain ⟨v, H2, J2, rv, ev, q2⟩ := J.after back
      subst ev
      exact ⟨rv, ⟨V.ref (hp.objs.size + 1), H2, J2, rfl, q2⟩⟩
/-- C(), a class without own __init__ -/
theorem pe_exc0 {C : Addr} {bmB : List Value} {B newId initId : String} {x : Str} {p pos : Pos} (F : ExcBaseFacts B newId initId bmB) (hi : PySem.W.excIn X.K C bmB newId = true) (gC : X.mg x = some (.ref C)) (kC : PySem.W.keepIn X.K (.ref C) = true) (hg : Gl X x) (hdb : (x == ("__debug__" : Str)) = false := by decide) :
    PE X (.Call (.Name x p) [] [] pos) (fun _ H Q => ∀ a, H a = none → Q (.ref a) (upd H a (ExO (.ref C) a))) := by
  refine ⟨fun pins s σ H Q I h => ?_⟩
  refine wpAny_Call_Name_kw (ld_glob I hg gC ?_ hdb)
  refine PySem.W.callWith_K0 I.kIn kC ?_
  show wpAny _ _ (call (.ref C) []) _ _ _
  obtain ⟨bm, N, nm, qn, bs, hdct, sn, sub, ab, col, dd, k0, k1, k2, k3, k5, mN, hC, hN, hni, T⟩ := exc_obj I.kIn hi
  refine wpAny_call_exc_subT F T hC hN hni (fun h' a hm => ?_) (by show 0 ≤ sizeLine; exact Nat.zero_le _)
  have gone : H a = none := I.hok.gone hm.new
  obtain ⟨t, ht, _, _⟩ := hm.there
  exact ⟨.ref a, upd H a (ExO (.ref C) a), I.laidN hm.keeps hm.new gone (exO_ok ht ⟨rfl, rfl⟩ rfl rfl rfl (by simp)), rfl, h a gone⟩
/-- self.value = value, the whole of an __init__ -/
def sp_init (K : PySem.W.Frag) (C : Addr) (f : Str) : Sp := fun vs H Q _ => ∃ (a : Addr) (y : V), vs = [.ref a, y] ∧ H a = some (exo a C none) ∧ ∀ dx, H dx = none → dx ≠ a → Q .non (upd (upd H dx (exd dx [(f, y)])) a (exo a C (some dx)))
/-- C(e) read by what stands behind it -/
theorem mkX_read {K : PySem.W.Frag} {C : Addr} {f : Str} {ta : TA} {σ : L2.St} {H : Hp} {Q : VK} (h : ta σ H fun vs H1 => ∃ y, vs = [y] ∧ ∀ a H2, Same H1 H2 → H1 a = none → XAt H2 a C (some [(f, y)]) → Q (.ref a) H2)
    (mono : ∀ (R R' : List V → Hp → Prop), (∀ vs H1, R vs H1 → R' vs H1) → ta σ H R → ta σ H R') : tMkX C (sp_init K C f) ta σ H Q := by
  refine mono _ _ ?_ h
  rintro vs H1 ⟨y, rfl, q⟩
  refine ⟨by simp, fun a na => ⟨a, y, rfl, upd_same, fun dx ndx ne => ⟨rfl, q a _ ?_ na (.full upd_same ?_)⟩⟩⟩
  · intro b o eb
    have h1 : b ≠ a := ne_of_none eb na
    have h2 : (upd H1 a (exo a C none)) b = some o := by rw [upd_ne h1]; exact eb
    rw [upd_ne h1, upd_ne (ne_of_none h2 ndx), upd_ne h1]
    exact eb
  · rw [upd_ne ne]; exact upd_same
end
end MB

set_option maxHeartbeats 4000000
namespace MB
open PySem PySem.Spec PyProof.Rows L2
/-- the thing at sysModules, tracked as it stands: a new thing then stands elsewhere -/
def sysO (oY : Obj) : HO := .frz oY (.ext fun h => h.get? sysModules = some oY)
theorem law_callS {P : Program} {w : World} {K : PySem.W.Frag} {mg mb : Str → Option Value} {k : Nat} {fa a : Addr} {fd : FuncData} {x : Str} {sp : Sp} {s₁ : Shared} {vs : List Value} {ns : List Int} {oY : Obj}
    (hKs : K.lookup sysModules = none) (hsy : s₁.heap.get? sysModules = some oY) (hna : a ≠ sysModules) (KX : K.In s₁.heap) (hns : s₁.heap.Ns mainGlobals mg) (hb : s₁.heap.Ns builtinsNs mb)
    (hbb : ∀ x : Str, x ≠ "__name__" → mb x = bootBuiltins x) (hlim : s₁.heap.NoLimit) (hg : s₁.gens = #[])
    (ha : s₁.heap.get? a = some { cls := .type "list", data := .seq vs.toArray }) (hi : IntsAre vs ns) (hl : ns.length ≤ sizeLine) (hr : Room k callerA)
    (F : ∀ base : Heap, K.In base → base.Ns mainGlobals mg → FnG P w K mg base CX0 k fa fd [x] sp) (hbind : ∀ (s : Shared) (u : Value), BindsTo s fd ⟨[u], []⟩ [(x, u)])
    (hsp : ∀ (H : Hp) (o : HO), SqL K H a (ns.map V.int) → H sysModules = some o → sp [.ref a] H (fun v _ => v = .bl true) fun _ _ _ => False) :
    codeAny (model P w) callerA (.call (.ref fa) ⟨[.ref a], []⟩) (fun r s' => r = .ok (.ret (.bool true)) ∧ OldK s₁.heap s'.heap ∧ s'.os = s₁.os ∧ AllBare s'.gens) s₁ := by
  let oS : Obj := { cls := .type "list", data := .seq vs.toArray }
  let H : Hp := fun b => if b = a ∧ K.lookup a = none then some (.frz oS (.lst (ns.map V.int))) else if b = sysModules then some (sysO oY) else none
  have Ha : K.lookup a = none → H a = some (.frz oS (.lst (ns.map V.int))) := fun hk => if_pos ⟨rfl, hk⟩
  have Hy : H sysModules = some (sysO oY) := (if_neg fun z => hna z.1.symm).trans (if_pos rfl)
  have rv := vals_ints hi
  have Hsome : ∀ {b : Addr} {o : HO}, H b = some o → (b = a ∧ o = .frz oS (.lst (ns.map V.int))) ∨ (b = sysModules ∧ o = sysO oY) := fun {b o} e => by
    by_cases c : b = a ∧ K.lookup a = none
    · have e' := (if_pos c).symm.trans e
      exact .inl ⟨c.1, (Option.some.inj e').symm⟩
    · by_cases c2 : b = sysModules
      · rw [c2, Hy] at e; exact .inr ⟨c2, (Option.some.inj e).symm⟩
      · have e' : H b = none := (if_neg c).trans (if_neg c2)
        rw [e'] at e; cases e
  have hfree : ∀ {b : Addr}, (b = a → K.lookup a ≠ none) → b ≠ sysModules → H b = none := fun {b} c c2 => (if_neg fun z => c z.1 z.2).trans (if_neg c2)
  have hS : SqL K H a (ns.map V.int) := by
    cases hk : K.lookup a with
    | none => exact .inl (.inr ⟨oS, Ha hk⟩)
    | some o =>
      have e := (KX a o hk).symm.trans ha
      cases e
      exact .inr ⟨_, vs.toArray, _, hk, rfl, rfl, rfl, by rw [List.size_toArray, hi.length]; exact hl, by simpa using rv⟩
  have hok : HOk P w H s₁.heap := fun b o e => by
    rcases Hsome e with ⟨rfl, rfl⟩ | ⟨rfl, rfl⟩
    · exact ⟨ha, by rw [List.length_map]; exact hl, vs, _, rv, ha⟩
    · exact ⟨hsy, hsy, ⟨_, hsy⟩, fun h1 h2 z kk => kk _ z⟩
  have notA : ∀ {b : Addr} {m : Str → Option Value}, s₁.heap.Ns b m → b ≠ a := fun {b m} ⟨o, es, ep, e, d, r⟩ z => by
    rw [z, ha] at e; cases e; cases d
  have ns_hid : ∀ {b : Addr} {m : Str → Option Value}, b ≠ sysModules → s₁.heap.Ns b m → (hidT s₁.heap H).Ns b m := fun {b m} hb x => by
    have h1 := notA x
    obtain ⟨o, es, ep, e, d, r⟩ := x
    exact ⟨o, es, ep, hidT_get e (hfree (fun z => absurd z h1) hb), d, r⟩
  have hKb : K.In (hidT s₁.heap H) := fun b o e => hidT_get (KX b o e) (hfree (fun z => by rw [z] at e; rw [e]; exact fun y => nomatch y) (fun z => by rw [z, hKs] at e; cases e))
  have hM : Mod K mg (hidT s₁.heap H) := ⟨hKb, ns_hid (by decide) hns, ⟨mb, ns_hid (by decide) hb, hbb⟩, let ⟨mc, h1, h2⟩ := hlim; ⟨mc, ns_hid (by decide) h1, h2⟩⟩
  have e0 : Env0 P w K mg (hidT s₁.heap H) callerA [] s₁ H := ⟨rfl, hM, fun b o e => of_hidT e, Nat.le_of_eq (hidT_size _ _), trivial, (fun b hb => absurd (show b ∈ ([] : List Addr) from hb) (by simp)), hok, .of_eq hg⟩
  refine codeAny_mono ((F _ hKb (ns_hid (by decide) hns)).run callerA rfl hr [] s₁ H ⟨[.ref a], []⟩ [.ref a] [.ref a] _ _ e0 (hbind s₁ (.ref a)) (.cons rfl .nil) (hsp H _ hS Hy)) fun r s' h => ?_
  rcases r with e | fl
  · exact False.elim h
  rcases fl with _ | _ | _ | u
  · exact False.elim h
  · exact False.elim h
  · exact False.elim h
  obtain ⟨v, H', os, bare, un, hok', r', q⟩ := h
  have q' : v = .bl true := q
  subst q'
  obtain rfl : u = Value.bool true := r'
  refine ⟨rfl, OldK.of_keep fun b o e => ?_, os, bare⟩
  cases hb' : H b with
  | none => exact un.keep b o e hb' (fun z => absurd (show b ∈ ([] : List Addr) from z) (by simp)) (by simp)
  | some u =>
    rcases Hsome hb' with ⟨rfl, rfl⟩ | ⟨rfl, rfl⟩
    · have e2 := (hok' _ _ (un.frzs _ oS _ hb')).1
      rw [ha] at e
      cases e
      exact e2
    · have e2 := (hok' _ _ (un.frzs _ oY _ hb')).1
      rw [hsy] at e
      cases e
      exact e2
theorem walk_ofS {l : PySem.W.OpenLaw} {n k : Nat} {q : Program} {loose : List Str} {XP : (Str → Option Value) → Heap → Prop} {YP : World → Heap → Prop} {d : DefRec} {K : Params → PySem.W.Frag} {sp : PySem.W.Frag → Sp} {x : Str}
    (hn : l.most = some n) (hn2 : n ≤ sizeLine) (hdf : d.params.defaults = []) (hr : Room k callerA) (him : importsNone q = true) (hKs : ∀ p, (K p).lookup sysModules = none)
    (hY : ∀ (w : World) (h : Heap), YP w h → (K w.params).In h)
    (F : ∀ (w : World) (mg : Str → Option Value) (fa : Addr) (h : Heap), (K w.params).In h → h.Ns mainGlobals mg → mg d.name = some (.ref fa) →
      ∃ fd : FuncData, (∀ (s : Shared) (u : Value), BindsTo s fd ⟨[u], []⟩ [(x, u)]) ∧
        ∀ base : Heap, (K w.params).In base → base.Ns mainGlobals mg → FnG l.prog w (K w.params) mg base CX0 k fa fd [x] (sp (K w.params)))
    (hsp : ∀ (K : PySem.W.Frag) (H : Hp) (a : Addr) (ns : List Int) (o : HO), ns.length ≤ n → SqL K H a (ns.map V.int) → H sysModules = some o → sp K [.ref a] H (fun v _ => v = .bl true) fun _ _ _ => False) :
    PySem.W.WalkO q loose XP YP l.row.toRowW d [] (fun f vs => PySem.call f vs) :=
  Att.attach_call hn hdf fun w s₀ s₁ mg mb fa o pm cd doc a vs ns G Y ho hd hcd hmg hobj hints hlen hg =>
    have KX := hY w _ Y
    let ⟨fd, hb, hF⟩ := F w mg fa _ KX G.T.g hmg
    let ⟨mm, hmm, _⟩ := (G.T.seer him).mods
    let ⟨oY, es, ep, eY, dY, _⟩ := hmm
    law_callS (hKs w.params) eY (fun z => by rw [z, eY] at hobj; cases hobj; cases dY) KX G.T.g G.T.b G.T.builtins G.T.nolimit hg hobj hints (Nat.le_trans hlen hn2) hr hF hb fun H o hS hy => hsp _ H a ns o hlen hS hy
end MB

set_option maxHeartbeats 4000000
namespace MB
open PySem PySem.Spec PyProof.Rows L2
/-! ### facts of own exception classes, each as one truth value -/
def excB (K : PySem.W.Frag) (D : Addr) : Bool :=
  decide (PySem.W.findIn K (.ref D) "__getattribute__" = some (some (.builtin "BaseException.__getattribute__"))) && (decide (PySem.W.findIn K (.ref D) "__getattr__" = some none) && (decide (PySem.W.subIn K (.ref D) (.type "BaseException") = some true) && (PySem.W.hasDictIn K D &&
  (decide (PySem.W.findIn K (.ref D) "__class__" = some (some (.builtin "object.__class__"))) && (decide (PySem.W.specialIn K (.builtin "object.__class__") "__get__" = some (some (.builtin "getset_descriptor.__get__"))) && (decide (PySem.W.takesIn K (.builtin "object.__class__") = some true) && decide (PySem.W.mroIn K D (.type "object") = some true)))))))
theorem excB_ok {K : PySem.W.Frag} {D : Addr} (h : excB K D = true) : ExcC K D ∧ XfC K D := by
  unfold excB at h
  simp only [Bool.and_eq_true, decide_eq_true_eq] at h
  obtain ⟨h1, h2, h3, h4, h5, h6, h7, h8⟩ := h
  exact ⟨⟨h1, h2, h3, h4, h5, h6, h7, h8⟩, ⟨h1, h2, h3, h4⟩⟩
def oexB (K : PySem.W.Frag) (C fI : Addr) (f : Str) : Bool :=
  decide (PySem.W.findIn K (.ref C) "__setattr__" = some (some (.builtin "object.__setattr__"))) && (decide (PySem.W.subIn K (.ref C) (.type "BaseException") = some true) && (decide (PySem.W.typeIn K (.ref C) = some (.type "type")) && (PySem.W.keepIn K (.ref C) &&
  (decide (PySem.W.findIn K (.ref C) f = some none) && (decide (PySem.W.typeIn K (.ref fI) = some (.type "function")))))))
theorem oexB_ok {K : PySem.W.Frag} {C fI : Addr} {f : Str} (h : oexB K C fI f = true) : PySem.W.findIn K (.ref C) "__setattr__" = some (some (.builtin "object.__setattr__")) ∧ PySem.W.subIn K (.ref C) (.type "BaseException") = some true ∧ PySem.W.typeIn K (.ref C) = some (.type "type") ∧ PySem.W.keepIn K (.ref C) = true ∧ PySem.W.findIn K (.ref C) f = some none ∧ PySem.W.typeIn K (.ref fI) = some (.type "function") := by
  unfold oexB at h
  simpa only [Bool.and_eq_true, decide_eq_true_eq] using h
/-- each is an instance of itself alone among them, of the base m, and of ValueError -/
def kitB (K : PySem.W.Frag) (cs : List Addr) (m : Addr) : Bool :=
  cs.all fun c => (cs.all fun d => decide (PySem.W.kitOne K (.ref c) (.ref d) = some (c == d))) && (decide (PySem.W.kitOne K (.ref c) (.ref m) = some true) && decide (PySem.W.kitOne K (.ref c) (.type "ValueError") = some true))
theorem kitB_ok {K : PySem.W.Frag} {cs : List Addr} {m : Addr} (h : kitB K cs m = true) {c : Addr} (hc : c ∈ cs) : (∀ d, d ∈ cs → PySem.W.kitOne K (.ref c) (.ref d) = some (c == d)) ∧ PySem.W.kitOne K (.ref c) (.ref m) = some true ∧ PySem.W.kitOne K (.ref c) (.type "ValueError") = some true := by
  unfold kitB at h
  have h1 := List.all_eq_true.mp h c hc
  simp only [Bool.and_eq_true, decide_eq_true_eq, List.all_eq_true] at h1
  exact h1
def nodupB (cs : List Addr) : Bool := decide cs.Nodup

/-- the same from the lines of ancestors alone -/
def kitT (l : List (Addr × List Value)) (m : Addr) : Bool :=
  l.all fun c => !c.2.isEmpty && ((l.all fun d => decide ((c.1 = d.1 ∨ c.2.contains (.ref d.1) = false))) && (c.2.contains (.ref m) && c.2.contains (.type "ValueError")))
theorem kitOne_self {K : PySem.W.Frag} {v : Value} : PySem.W.kitOne K v v = some true := by
  unfold PySem.W.kitOne
  rw [if_pos (beq_self_eq_true v)]
theorem kitOne_ref {K : PySem.W.Frag} {c d : Addr} {cd dd : ClassData} (hn : c ≠ d) (h : PySem.W.clsIn K c = some cd) (he : cd.mro.isEmpty = false) (g : PySem.W.clsIn K d = some dd) (gt : PySem.W.typeIn K (.ref d) = some (.type "type")) :
    PySem.W.kitOne K (.ref c) (.ref d) = some (cd.mro.contains (.ref d)) := by
  unfold PySem.W.kitOne
  have e : ¬ ((Value.ref c == Value.ref d) = true) := fun z => by
    have z2 : Value.ref c = Value.ref d := beq_iff_eq.mp z
    cases z2; exact hn rfl
  rw [if_neg e]
  unfold PySem.W.kitCls
  dsimp only
  rw [g, gt, if_pos (by simp)]
  show PySem.W.mroIn K c (.ref d) = _
  unfold PySem.W.mroIn
  rw [h]
  show (if cd.mro.isEmpty = true then none else some (cd.mro.contains (.ref d))) = _
  rw [he]; rfl
theorem kitOne_ve {K : PySem.W.Frag} {c : Addr} {cd : ClassData} (h : PySem.W.clsIn K c = some cd) (he : cd.mro.isEmpty = false) :
    PySem.W.kitOne K (.ref c) (.type "ValueError") = some (cd.mro.contains (.type "ValueError")) := by
  unfold PySem.W.kitOne
  have e : ¬ ((Value.ref c == Value.type "ValueError") = true) := fun z => by
    have z2 : Value.ref c = Value.type "ValueError" := beq_iff_eq.mp z
    cases z2
  rw [if_neg e]
  unfold PySem.W.kitCls
  dsimp only
  rw [if_pos (by decide +kernel)]
  show PySem.W.mroIn K c (.type "ValueError") = _
  unfold PySem.W.mroIn
  rw [h]
  show (if cd.mro.isEmpty = true then none else some (cd.mro.contains (.type "ValueError"))) = _
  rw [he]; rfl
theorem kitB_mk {K : PySem.W.Frag} {m : Addr} {md : ClassData} (l : List (Addr × ClassData)) (h : ∀ p, p ∈ l → PySem.W.clsIn K p.1 = some p.2 ∧ PySem.W.typeIn K (.ref p.1) = some (.type "type"))
    (hm : PySem.W.clsIn K m = some md) (tm : PySem.W.typeIn K (.ref m) = some (.type "type")) (t : kitT (l.map fun p => (p.1, p.2.mro)) m = true) : kitB K (l.map (·.1)) m = true := by
  unfold kitB
  unfold kitT at t
  rw [List.all_eq_true] at t ⊢
  intro c hc
  obtain ⟨p, hp, rfl⟩ := List.mem_map.mp hc
  have tp := t _ (List.mem_map.mpr ⟨p, hp, rfl⟩)
  simp only [Bool.and_eq_true, decide_eq_true_eq, List.all_eq_true] at tp
  obtain ⟨t1, t2, t3, t4⟩ := tp
  have t1' : p.2.mro.isEmpty = false := by simpa using t1
  simp only [Bool.and_eq_true, decide_eq_true_eq, List.all_eq_true]
  refine ⟨fun d hd => ?_, ?_, ?_⟩
  · obtain ⟨q, hq, rfl⟩ := List.mem_map.mp hd
    by_cases z : p.1 = q.1
    · rw [z, kitOne_self]; simp
    · have := t2 _ (List.mem_map.mpr ⟨q, hq, rfl⟩)
      rcases this with e | e
      · exact absurd e z
      · rw [kitOne_ref z (h p hp).1 t1' (h q hq).1 (h q hq).2, e]
        have : (p.1 == q.1) = false := by simpa using z
        rw [this]
  · by_cases z : p.1 = m
    · rw [z, kitOne_self]
    · rw [kitOne_ref z (h p hp).1 t1' hm tm, t3]
  · rw [kitOne_ve (h p hp).1 t1', t4]
end MB

set_option maxHeartbeats 4000000
namespace MB
open PySem PySem.Spec PyProof.Rows L2
/-! ### a caught exception is kept: its object comes among what is tracked -/
theorem inv_adopt {X : Cx} {pins : List (Addr × Obj)} {σ : L2.St} {H : Hp} {s : Shared} {a : Addr} {o : HO} (I : Inv X pins σ H s)
    (na : H a = none) (n0 : a ∉ X.ex → X.s_0.heap.get? a = none) (nL : a ≠ X.env.locals) (nC : ∀ x c, X.env.cells.lookup x = some c → c ≠ a) (nP : ∀ p ∈ X.pn ++ pins, p.1 ≠ a)
    (new : ObjOk X.prog X.w (upd H a o) s.heap a o) : Inv X pins σ (upd H a o) s := by
  have ne : ∀ b u, H b = some u → b ≠ a := fun b u q z => by rw [z, na] at q; cases q
  have up : ∀ b u, H b = some u → upd H a o b = some u := fun b u q => by rw [upd_ne (ne b u q)]; exact q
  have no : ∀ b, b ≠ a → H b = none → upd H a o b = none := fun b z q => by rw [upd_ne z]; exact q
  have B := I.base
  refine ⟨I.ok, I.os, I.bare, ⟨B.keep, B.slot, fun b ob q n x => ?_, B.there, fun b xs q => up _ _ (B.tups b xs q), fun b ob u q => up _ _ (B.frzs b ob u q), fun b ps q => ?_⟩, I.loc, I.cell, no _ (Ne.symm nL) I.free, fun x c q => no _ (nC x c q) (I.freeC x c q), fun p hp => ?_, fun b u q => ?_, I.len⟩
  · refine no _ (fun z => ?_) (B.free b ob q n x)
    rw [z] at q x
    rw [n0 x] at q; cases q
  · obtain ⟨more, e⟩ := B.tbls b ps q
    exact ⟨more, up _ _ e⟩
  · obtain ⟨p1, p2, p3⟩ := I.pin p hp
    exact ⟨p1, no _ (nP p hp) p2, p3⟩
  · by_cases z : b = a
    · rw [z, upd_same] at q
      cases q
      rw [z]
      exact new
    · rw [upd_ne z] at q
      exact (I.hok b u q).stay (fun c v _ e => e) (fun c e => up c _ e) fun c _ e => up c _ e

/-- what the catch wishes: the class is one that is caught; behind the suite the error stays, tracked -/
def wKept (K : PySem.W.Frag) (c : Value) (i : Nat) (ts : Addr → Value → Option Addr → TS) (D : Ends) : WX := fun cls d σ H =>
  PySem.W.exmOne K cls c = some true ∧ ∀ a, H a = none →
    ts a cls d { nx := fun σ' H' => D.nx (σ'.set i none) (upd H' a (KeO a cls d)), rt := fun _ _ => False, bk := fun _ _ => False, ct := fun _ _ => False } (σ.set i (some (.ref a))) H
section
variable {X : Cx} {x n : Str} {c : Value} {i : Nat} {body more : List Stmt} {st : Stmt} {np pos pos' : Pos} {tb : WX → TS} {ts : Addr → Value → Option Addr → TS}
theorem ps_try_kept (hst : X.stack = X.env :: X.outer) (hfm : X.env.frame = some X.env.locals)
    (hN : X.N.Nodup) (hi : X.N[i]? = some n)
    (hln : X.env.kindOf n = some .local) (hc : Names X x c)
    (hb : ∀ (W : WX) (pn : List (Addr × Obj)) (xe : Value → Shared → Prop), Takes (X.tr pn xe) W →
      PassesOwn (model X.prog X.w) X.A X.env xe → PSs (X.tr pn xe) body (tb W))
    (hsu : ∀ (a : Addr) (oe : Obj) (cls : Value) (d : Option Addr) (pn : List (Addr × Obj)), Zc cls d oe →
      (∃ vs, oe.data = .fields vs) → PSs (X.suite a ((a, oe) :: pn)) (st :: more) (ts a cls d)) :
    PS X (.Try body [.ExceptHandler (some (.Name x np)) (some n) (st :: more) pos'] [] [] pos)
      (fun D σ H => tb (wKept X.K c i ts D) D σ H) := by
  refine ⟨fun pins s σ H D I h => ?_⟩
  have okX := I.ok
  have frm : X.A.frames = some (X.env :: X.outer) := by rw [okX.frames, hst]
  refine wpAny_Try_except (wpAny_mono ((hb (wKept X.K c i ts D) (X.pn ++ pins) _ (fun u s1 xx => ?_) PassesOwn.looking).run [] s σ H D (I.toTry _) h) (fun f s1 q => ?_) (fun e s1 q => q))
  · obtain ⟨a, B, sI, pins', σ1, H1, cls, d, rfl, Jt, nb, up, sky, na, os, ag, hyes, hts⟩ := xx
    have J : Inv X pins σ1 H1 sI := Jt.ofTry okX
    rw [show (X.tr (X.pn ++ pins) _).stack = X.env :: X.outer from hst] at sky
    show wpAny (model X.prog X.w) X.A (noteFrame (.ref a) X.env) _ _ _
    refine Sky.land Zc.steady frm hfm sky fun h2 fl up2 => ?_
    have J2 : Inv X pins σ1 H1 { s1 with heap := h2 } := J.landed nb fl.1 (up.trans up2) os ag
    have Bn : B.get? a = none := fl.2.1
    obtain ⟨o2, vs2, g2, z2, d2⟩ := fl.there
    have offF : a ∉ frs (X.env :: X.outer) := fun hm => by
      obtain ⟨_, o', e', hnf⟩ := fl.2.2.1.mem hm
      rw [g2] at e'; cases e'
      exact hnf _ d2
    have offL : a ≠ X.env.locals := fun z => offF (List.mem_filterMap.mpr ⟨X.env, List.mem_cons_self, by rw [hfm, z]⟩)
    have offO : a ∉ X.fs := fun hm => by
      obtain ⟨e, he, q⟩ := List.mem_filterMap.mp hm
      exact offF (List.mem_filterMap.mpr ⟨e, List.mem_cons_of_mem _ he, q⟩)
    have offI : ∀ o, sI.heap.get? a = some o → False := fun o e => by
      have := nb a o e (by show a ∉ frs X.stack; rw [hst]; exact offF)
      rw [Bn] at this; cases this
    have n0 : a ∉ X.ex → X.s_0.heap.get? a = none := fun hx => by
      cases e : X.s_0.heap.get? a with
      | none => rfl
      | some o =>
        obtain ⟨o', e'⟩ := J.base.there a o e hx
        exact (offI _ e').elim
    have nC : ∀ x c, X.env.cells.lookup x = some c → c ≠ a := fun x c e z => by
      obtain ⟨v, q⟩ := J.cell x c e
      rw [z] at q
      obtain ⟨o, q1, _⟩ := q
      exact offI _ q1
    have nP : ∀ p ∈ X.pn ++ pins, p.1 ≠ a := fun p hp z => by
      have q := (J.pin p hp).1
      rw [z] at q
      exact offI _ q
    have S2 := J2.suite g2 d2 na offL offO
    refine wpAny_handleBy_cons (codeAny_handlers_test ?_) (by intro q; cases q)
    have ty : PySem.W.Looks (model X.prog X.w) h2 (typeOf (.ref a)) cls := fun _ _ _ _ k q =>
      wpAny_typeOf_ref (k _ _ g2) (by rw [z2.1]; exact q)
    have look := PySem.W.exm_one (M := model X.prog X.w) J2.kIn ty hyes
    have nam : ∀ {Q E : Value → Shared → Prop}, Q c { s1 with heap := h2 } →
        wpAny (model X.prog X.w) (X.A.mark (some (.ref a))) (eval (.Name x np) X.env) Q E { s1 with heap := h2 } := fun {Q E} q => by
      rcases hc with ⟨hg, hdb, hm | ⟨hm, hv, hnn⟩⟩
      · exact ld_glob (X := X.suite a ((a, o2) :: (X.pn ++ pins))) S2 hg hm q hdb
      · exact ld_blt (X := X.suite a ((a, o2) :: (X.pn ++ pins))) S2 hg hm hv q hnn hdb
    refine nam (look.here (codeAny_handlers_suite_as (HandSPX.lands_againZ fl fun h3 fl3 up3 => ?_)))
    have J3 : Inv X pins σ1 H1 { s1 with heap := h3 } := J.landed nb fl3.1 ((up.trans up2).trans up3) os ag
    obtain ⟨o3, vs3, g3, z3, d3⟩ := fl3.there
    have S3 := J3.suite g3 d3 na offL offO
    refine store_ok (X := X.suite a ((a, o3) :: (X.pn ++ pins))) (v := .ref a) S3 hN hi (.inl hln) rfl (fun s4 S4 => ?_) (.inr hln)
    refine wpAny_mono ((hsu a o3 cls d (X.pn ++ pins) z3 ⟨_, d3⟩).run [] s4 _ H1 _ S4 (hts a na)) (fun f s5 q => ?_) (fun _ _ z => z.elim)
    cases f with
    | next =>
      obtain ⟨σ5, H5, S5, q5⟩ := q
      obtain ⟨g5, n5, _⟩ := S5.pin (a, o3) (by simp [Cx.suite])
      exact gone_ok (inv_adopt (S5.unsuite okX) n5 n0 offL nC nP (keO_ok g5 z3.1 z3.2 d3)) hN hi hln fun s6 J6 => ⟨_, _, J6, q5⟩
    | brk => obtain ⟨_, _, _, z⟩ := q; exact z.elim
    | cont => obtain ⟨_, _, _, z⟩ := q; exact z.elim
    | ret u => obtain ⟨_, _, _, _, _, z⟩ := q; exact z.elim
  · cases f with
    | next => obtain ⟨_, _, J, z⟩ := q; exact wpAny_execs_nil ⟨_, _, J.ofTry okX, z⟩
    | brk => obtain ⟨_, _, J, z⟩ := q; exact ⟨_, _, J.ofTry okX, z⟩
    | cont => obtain ⟨_, _, J, z⟩ := q; exact ⟨_, _, J.ofTry okX, z⟩
    | ret u => obtain ⟨_, _, _, J, r, z⟩ := q; exact ⟨_, _, _, J.ofTry okX, r, z⟩
end
end MB

set_option maxHeartbeats 4000000
namespace MB
open PySem PySem.Spec PyProof.Rows L2
/-- a law's call: no repr is under way, sysModules is tracked, and so are the tables ts of code objects (cs: code object and table) -/
theorem law_callT {P : Program} {w : World} {K : PySem.W.Frag} {mg mb : Str → Option Value} {k : Nat} {fa a : Addr} {fd : FuncData} {x : Str} {sp : Sp} {s₁ : Shared} {vs : List Value} {ns : List Int} {oY : Obj} {cs : List (Addr × Addr)}
    (hKs : K.lookup sysModules = none) (hsy : s₁.heap.get? sysModules = some oY) (hyT : ∀ p ∈ cs, p.2 ≠ sysModules) (hna : a ≠ sysModules) (KX : K.In s₁.heap) (hns : s₁.heap.Ns mainGlobals mg) (hb : s₁.heap.Ns builtinsNs mb)
    (hbb : ∀ x : Str, x ≠ "__name__" → mb x = bootBuiltins x) (hlim : s₁.heap.NoLimit) (hg : s₁.gens = #[])
    (hT : ∀ p ∈ cs, s₁.heap.get? p.2 = some { cls := .none, data := .fields #[] }) (nT : ∀ p ∈ cs, K.lookup p.2 = none) (hC : ∀ p ∈ cs, PySem.W.CodeHd s₁.heap p.1 p.2) (hCy : ∀ p ∈ cs, p.1 ≠ sysModules)
    (hbm : ∃ (bm : Addr) (ob : Obj), mg "__builtins__" = some (.ref bm) ∧ bm ≠ builtinsNs ∧ s₁.heap.get? bm = some ob ∧ ob.cls = .type "module" ∧ ob.dict = some builtinsNs ∧ ob.data = .plain)
    (hyd : ∃ es ep, oY.data = .dict es ep)
    (ha : s₁.heap.get? a = some { cls := .type "list", data := .seq vs.toArray }) (hi : IntsAre vs ns) (hl : ns.length ≤ sizeLine) (hr : Room k callerA)
    (F : ∀ base : Heap, K.In base → base.Ns mainGlobals mg → (∀ p ∈ cs, LamX.TabB base mg p.1 p.2) → FnG P w K mg base CX0 k fa fd [x] sp) (hbind : ∀ (s : Shared) (u : Value), BindsTo s fd ⟨[u], []⟩ [(x, u)])
    (hsp : ∀ (H : Hp) (o : HO), SqL K H a (ns.map V.int) → H sysModules = some o → (∀ ps, o ≠ .tbl ps) → (∀ p ∈ cs, H p.2 = some (.tbl #[])) → sp [.ref a] H (fun v _ => v = .bl true) fun _ _ _ => False) :
    codeAny (model P w) callerA (.call (.ref fa) ⟨[.ref a], []⟩) (fun r s' => r = .ok (.ret (.bool true)) ∧ OldK s₁.heap s'.heap ∧ s'.os = s₁.os ∧ AllBare s'.gens) s₁ := by
  let oS : Obj := { cls := .type "list", data := .seq vs.toArray }
  let H : Hp := fun b => if b = a ∧ K.lookup a = none then some (.frz oS (.lst (ns.map V.int))) else if b = sysModules then some (sysO oY) else if b ∈ cs.map (·.2) then some (.tbl #[]) else none
  have isT : ∀ b : Addr, b ∈ cs.map (·.2) → s₁.heap.get? b = some { cls := .none, data := .fields #[] } ∧ K.lookup b = none ∧ b ≠ sysModules := fun b hb => by
    obtain ⟨p, hp, rfl⟩ := List.mem_map.mp hb
    exact ⟨hT p hp, nT p hp, hyT p hp⟩
  have aT : a ∉ cs.map (·.2) := fun z => by
    have q := (isT a z).1
    rw [ha] at q
    cases q
  have Ha : K.lookup a = none → H a = some (.frz oS (.lst (ns.map V.int))) := fun hk => if_pos ⟨rfl, hk⟩
  have Hy : H sysModules = some (sysO oY) := (if_neg fun z => hna z.1.symm).trans (if_pos rfl)
  have Ht : ∀ b, b ∈ cs.map (·.2) → H b = some (.tbl #[]) := fun b hb => (if_neg fun z => aT (by rw [← z.1]; exact hb)).trans ((if_neg (isT b hb).2.2).trans (if_pos hb))
  have rv := vals_ints hi
  have Hsome : ∀ {b : Addr} {o : HO}, H b = some o → (b = a ∧ o = .frz oS (.lst (ns.map V.int))) ∨ (b = sysModules ∧ o = sysO oY) ∨ (b ∈ cs.map (·.2) ∧ o = .tbl #[]) := fun {b o} e => by
    by_cases c : b = a ∧ K.lookup a = none
    · have e' := (if_pos c).symm.trans e
      exact .inl ⟨c.1, (Option.some.inj e').symm⟩
    · by_cases c2 : b = sysModules
      · rw [c2, Hy] at e; exact .inr (.inl ⟨c2, (Option.some.inj e).symm⟩)
      · by_cases c3 : b ∈ cs.map (·.2)
        · rw [Ht b c3] at e; exact .inr (.inr ⟨c3, (Option.some.inj e).symm⟩)
        · have e' : H b = none := (if_neg c).trans ((if_neg c2).trans (if_neg c3))
          rw [e'] at e; cases e
  have hfree : ∀ {b : Addr}, (b = a → K.lookup a ≠ none) → b ≠ sysModules → b ∉ cs.map (·.2) → H b = none := fun {b} c c2 c3 => (if_neg fun z => c z.1 z.2).trans ((if_neg c2).trans (if_neg c3))
  have hS : SqL K H a (ns.map V.int) := by
    cases hk : K.lookup a with
    | none => exact .inl (.inr ⟨oS, Ha hk⟩)
    | some o =>
      have e := (KX a o hk).symm.trans ha
      cases e
      exact .inr ⟨_, vs.toArray, _, hk, rfl, rfl, rfl, by rw [List.size_toArray, hi.length]; exact hl, by simpa using rv⟩
  have hok : HOk P w H s₁.heap := fun b o e => by
    rcases Hsome e with ⟨rfl, rfl⟩ | ⟨rfl, rfl⟩ | ⟨h1, rfl⟩
    · exact ⟨ha, by rw [List.length_map]; exact hl, vs, _, rv, ha⟩
    · exact ⟨hsy, hsy, ⟨_, hsy⟩, fun h1 h2 z kk => kk _ z⟩
    · exact (isT b h1).1
  have noD : ∀ {b : Addr} {o : Obj}, s₁.heap.get? b = some o → b ≠ sysModules → (∀ us n, o.data ≠ .seq us n) → o.data ≠ .fields #[] → H b = none := fun {b o} e c h1 h2 => hfree (fun z => by
      rw [z, ha] at e
      cases e
      exact (h1 _ _ rfl).elim) c fun z => by
      rw [(isT b z).1] at e
      cases e
      exact h2 rfl
  have ns_hid : ∀ {b : Addr} {m : Str → Option Value}, b ≠ sysModules → s₁.heap.Ns b m → (hidT s₁.heap H).Ns b m := fun {b m} hb x => by
    obtain ⟨o, es, ep, e, d, r⟩ := x
    exact ⟨o, es, ep, hidT_get e (noD e hb (fun us n z => by rw [d] at z; cases z) fun z => by rw [d] at z; cases z), d, r⟩
  have hKb : K.In (hidT s₁.heap H) := fun b o e => hidT_get (KX b o e) (hfree (fun z => by rw [z] at e; rw [e]; exact fun y => nomatch y) (fun z => by rw [z, hKs] at e; cases e) fun z => by rw [(isT b z).2.1] at e; cases e)
  have hM : Mod K mg (hidT s₁.heap H) := ⟨hKb, ns_hid (by decide) hns, ⟨mb, ns_hid (by decide) hb, hbb⟩, let ⟨mc, h1, h2⟩ := hlim; ⟨mc, ns_hid (by decide) h1, h2⟩⟩
  have TB : ∀ p ∈ cs, LamX.TabB (hidT s₁.heap H) mg p.1 p.2 := fun p hp => by
    have hTp := hT p hp
    refine ⟨?_, ?_, fun z => ?_⟩
    · obtain ⟨o, us, file, tf, flags, tg, inF, text, tt, e1, r1, r2, r3, r4⟩ := hC p hp
      refine ⟨o, us, file, tf, flags, tg, inF, text, tt, hidT_get e1 (noD e1 (hCy p hp) (fun us' n z => ?_) fun z => ?_), r1, r2, r3, r4⟩
      · rw [r2] at z; cases z
      · rw [r2] at z; cases z; simp at r3
    · obtain ⟨bm, ob, b1, b2, b3, b4, b5, b6⟩ := hbm
      have nY : bm ≠ sysModules := fun q => by
        obtain ⟨es, ep, hd⟩ := hyd
        rw [q, hsy] at b3
        cases b3
        rw [hd] at b6; cases b6
      have nG : bm ≠ mainGlobals := fun q => by
        obtain ⟨o, es, ep, e, hd, _⟩ := hns
        rw [q, e] at b3
        cases b3
        rw [hd] at b6; cases b6
      have nP : bm ≠ p.2 := fun q => by rw [q, hTp] at b3; cases b3; cases b6
      exact ⟨bm, ob, b1, b2, nG, nP, hidT_get b3 (noD b3 nY (fun us' n z => by rw [b6] at z; cases z) fun z => by rw [b6] at z; cases z), b4, b5, b6⟩
    · obtain ⟨o, es, ep, e, hd, _⟩ := hns
      rw [z, hTp] at e
      cases e
      cases hd
  have e0 : Env0 P w K mg (hidT s₁.heap H) callerA [] s₁ H := ⟨rfl, hM, fun b o e => of_hidT e, Nat.le_of_eq (hidT_size _ _), trivial, (fun b hb => absurd (show b ∈ ([] : List Addr) from hb) (by simp)), hok, .of_eq hg⟩
  refine codeAny_mono ((F _ hKb (ns_hid (by decide) hns) TB).run callerA rfl hr [] s₁ H ⟨[.ref a], []⟩ [.ref a] [.ref a] _ _ e0 (hbind s₁ (.ref a)) (.cons rfl .nil) (hsp H _ hS Hy (fun ps z => by unfold sysO at z; cases z) fun p hp => Ht _ (List.mem_map.mpr ⟨p, hp, rfl⟩))) fun r s' h => ?_
  rcases r with e | fl
  · exact False.elim h
  rcases fl with _ | _ | _ | u
  · exact False.elim h
  · exact False.elim h
  · exact False.elim h
  obtain ⟨v, H', os, bare, un, hok', r', q⟩ := h
  have q' : v = .bl true := q
  subst q'
  obtain rfl : u = Value.bool true := r'
  have key : ∀ b o, b ∉ cs.map (·.2) → s₁.heap.get? b = some o → s'.heap.get? b = some o := fun b o nb e => by
    cases hb' : H b with
    | none => exact un.keep b o e hb' (fun z => absurd (show b ∈ ([] : List Addr) from z) (by simp)) (by simp)
    | some u =>
      rcases Hsome hb' with ⟨rfl, rfl⟩ | ⟨rfl, rfl⟩ | ⟨h1, _⟩
      · have e2 := (hok' _ _ (un.frzs _ oS _ hb')).1
        rw [ha] at e
        cases e
        exact e2
      · have e2 := (hok' _ _ (un.frzs _ oY _ hb')).1
        rw [hsy] at e
        cases e
        exact e2
      · exact absurd h1 nb
  have grown : ∀ p ∈ cs, ∃ more : Array Value, s'.heap.get? p.2 = some { cls := .none, data := .fields more } := fun p hp => by
    obtain ⟨more, z⟩ := un.tbls p.2 #[] (Ht _ (List.mem_map.mpr ⟨p, hp, rfl⟩))
    exact ⟨_, hok' p.2 _ z⟩
  refine ⟨rfl, ⟨fun b o e => ?_, fun b o e => ?_⟩, os, bare⟩
  · by_cases hb : b ∈ cs.map (·.2)
    · obtain ⟨p, hp, rfl⟩ := List.mem_map.mp hb
      obtain ⟨more, hm⟩ := grown p hp
      rw [hT p hp] at e
      cases e
      exact .inr (.inl ⟨((hC p hp).tab (hT p hp)).isCodeTable, rfl, #[], more, rfl, by rw [Array.empty_append]; exact hm⟩)
    · exact .inl (key b o hb e)
  · by_cases hb : b ∈ cs.map (·.2)
    · obtain ⟨p, hp, rfl⟩ := List.mem_map.mp hb
      obtain ⟨more, hm⟩ := grown p hp
      exact ⟨_, hm⟩
    · exact ⟨o, key b o hb e⟩
theorem walk_ofT {l : PySem.W.OpenLaw} {n k : Nat} {q : Program} {loose : List Str} {XP : (Str → Option Value) → Heap → Prop} {YP : World → Heap → Prop} {d : DefRec} {K : Params → PySem.W.Frag} {sp : PySem.W.Frag → List (Addr × Addr) → Sp} {x : Str}
    (hn : l.most = some n) (hn2 : n ≤ sizeLine) (hdf : d.params.defaults = []) (hr : Room k callerA) (him : importsNone q = true) (hKs : ∀ p, (K p).lookup sysModules = none)
    (hY : ∀ (w : World) (h : Heap), YP w h → (K w.params).In h)
    (F : ∀ (w : World) (mg : Str → Option Value) (fa : Addr) (h : Heap), YP w h → (K w.params).In h → h.Ns mainGlobals mg → mg d.name = some (.ref fa) →
      ∃ (fd : FuncData) (cs : List (Addr × Addr)), (∀ p ∈ cs, h.get? p.2 = some { cls := .none, data := .fields #[] }) ∧ (∀ p ∈ cs, (K w.params).lookup p.2 = none) ∧ (∀ p ∈ cs, PySem.W.CodeHd h p.1 p.2) ∧ (∀ p ∈ cs, p.1 ≠ sysModules ∧ p.2 ≠ sysModules) ∧ (∀ (s : Shared) (u : Value), BindsTo s fd ⟨[u], []⟩ [(x, u)]) ∧
        (∀ base : Heap, (K w.params).In base → base.Ns mainGlobals mg → (∀ p ∈ cs, LamX.TabB base mg p.1 p.2) → FnG l.prog w (K w.params) mg base CX0 k fa fd [x] (sp (K w.params) cs)) ∧
        ∀ (H : Hp) (a : Addr) (ns : List Int) (o : HO), ns.length ≤ n → SqL (K w.params) H a (ns.map V.int) → H sysModules = some o → (∀ ps, o ≠ .tbl ps) → (∀ p ∈ cs, H p.2 = some (.tbl #[])) → sp (K w.params) cs [.ref a] H (fun v _ => v = .bl true) fun _ _ _ => False) :
    PySem.W.WalkO q loose XP YP l.row.toRowW d [] (fun f vs => PySem.call f vs) :=
  Att.attach_call hn hdf fun w s₀ s₁ mg mb fa o pm cd doc a vs ns G Y ho hd hcd hmg hobj hints hlen hg =>
    have KX := hY w _ Y
    let ⟨fd, cs, hT, nT, hC, hy, hb, hF, hsp⟩ := F w mg fa _ Y KX G.T.g hmg
    let ⟨mm, hmm, _⟩ := (G.T.seer him).mods
    let ⟨oY, es, ep, eY, dY, _⟩ := hmm
    law_callT (hKs w.params) eY (fun p hp => (hy p hp).2) (fun z => by rw [z, eY] at hobj; cases hobj; cases dY) KX G.T.g G.T.b G.T.builtins G.T.nolimit hg hT nT hC (fun p hp => (hy p hp).1) G.T.bmain ⟨es, ep, dY⟩ hobj hints (Nat.le_trans hlen hn2) hr hF hb fun H o hS hyy hoo hTT => hsp H a ns o hlen hS hyy hoo hTT
end MB

set_option maxHeartbeats 4000000
namespace MB
open PySem PySem.Spec PyProof.Rows L2
/-! ### what a def or a lambda lets out, its caller takes -/
theorem takesX {P : Program} {w : World} {K : PySem.W.Frag} {mg : Str → Option Value} {base : Heap} {N : List Str} {qual : Str} {scope : Scope} {f : Addr} {cd : Value} {A : Around} {outer : List Env} {s : Shared} {H : Hp} {E : XK} :
    Takes (cxOf (L2.CX P w) P w K mg base N qual scope f cd A outer s H E) (fun cls d _ H => E cls d H) := takes_of rfl rfl rfl rfl
theorem passX {P : Program} {w : World} {K : PySem.W.Frag} {mg : Str → Option Value} {base : Heap} {N : List Str} {qual : Str} {scope : Scope} {f : Addr} {cd : Value} {A : Around} {outer : List Env} {s : Shared} {H : Hp} {E : XK} :
    Passes (L2.CX P w) (cxOf (L2.CX P w) P w K mg base N qual scope f cd A outer s H E) E := passes_call takesX fun _ _ _ _ h => h
theorem takesL {X : Cx} {A : Around} {outer : List Env} {s : Shared} {H : Hp} {E : XK} {scope : Scope} {f c' : Addr} : Takes (LamX.lamCx X A outer s H E scope f c') (fun cls d _ H => E cls d H) := takes_of rfl rfl rfl rfl
theorem passL' {X : Cx} {A : Around} {outer : List Env} {s : Shared} {H : Hp} {E : XK} {scope : Scope} {f c' : Addr} : Passes (L2.CX X.prog X.w) (LamX.lamCx X A outer s H E scope f c') E := passes_call takesL fun _ _ _ _ h => h
/-- a def that may raise, called where it does not -/
theorem passN {P : Program} {w : World} {X : Cx} : Passes (L2.CX P w) X E0 := fun _ _ _ _ _ _ _ ⟨_, _, _, _, _, _, _, _, _, _, _, _, h⟩ => h.elim
/-! ### raise C(value) -/
theorem raise_read {K : PySem.W.Frag} {C : Addr} {ta : TA} {σ : L2.St} {H : Hp} {W : XK} (h : ta σ H fun vs H1 => ∃ y, vs = [y] ∧ ∀ d H2, Same H1 H2 → H1 d = none → H2 d = some (.xd [("value", y)]) → W (.ref C) (some d) H2)
    (mono : ∀ (R R' : List V → Hp → Prop), (∀ vs H1, R vs H1 → R' vs H1) → ta σ H R → ta σ H R') : tMkO C (sp_init K C "value") [] ta σ H W := by
  refine mono _ _ ?_ h
  rintro vs H1 ⟨y, rfl, q⟩
  refine ⟨by simp, fun a na => ⟨a, y, rfl, upd_same, fun dx ndx ne => ⟨rfl, dx, [("value", y)], upd_same, ?_, ?_, ?_⟩⟩⟩
  · rw [upd_ne ne]; exact upd_same
  · by_cases e : dx = a
    · exact absurd e ne
    · rw [upd_ne e] at ndx; exact ndx
  · have nd : H1 dx = none := by rw [upd_ne ne] at ndx; exact ndx
    refine q dx _ (fun b o eb => ?_) nd upd_same
    have h1 : b ≠ a := ne_of_none eb na
    have h2 : b ≠ dx := ne_of_none eb nd
    rw [upd_ne h2]
    unfold del
    rw [if_neg h1, upd_ne h1, upd_ne h2, upd_ne h1]
    exact eb
/-! ### what stays when a lambda is made -/
theorem extN_seq {K : PySem.W.Frag} {H H' : Hp} (e : LamX.ExtN H H') {a : Addr} {xs : List V} (h : SqL K H a xs) : SqL K H' a xs := by
  rcases h with (h | ⟨o, h⟩) | h
  · exact .inl (.inl (e _ _ h fun _ z => nomatch z))
  · exact .inl (.inr ⟨o, e _ _ h fun _ z => nomatch z⟩)
  · exact .inr h
theorem extN_tup {K : PySem.W.Frag} {H H' : Hp} (e : LamX.ExtN H H') {a : Addr} {xs : List V} (h : SqT K H a xs) : SqT K H' a xs := by
  rcases h with (h | ⟨o, h⟩) | h
  · exact .inl (.inl (e _ _ h fun _ z => nomatch z))
  · exact .inl (.inr ⟨o, e _ _ h fun _ z => nomatch z⟩)
  · exact .inr h
theorem Dq.extN {K : PySem.W.Frag} {H H' : Hp} (e : LamX.ExtN H H') {v : V} {d : PyData} (h : Dq K H v d) : Dq K H' v d := by
  refine Dq.rec (motive_1 := fun v d _ => Dq K H' v d) (motive_2 := fun vs ds _ => DqAll K H' vs ds) ?_ ?_ ?_ ?_ ?_ ?_ ?_ ?_ ?_ h
  · exact .nonq
  · intro b; exact .blq b
  · intro i; exact .intq i
  · intro x; exact .strq x
  · intro a xs ds hs hne _ ih; exact .lstq (extN_seq e hs) hne ih
  · intro a xs ds hs _ ih; exact .tupq (extN_tup e hs) ih
  · intro a kvs des he hk _ ih; exact .dctq (e _ _ he fun _ z => nomatch z) hk ih
  · exact .nil
  · intro v vs d ds _ _ h1 h2; exact .cons h1 h2
theorem tabs_but {T : List (Addr × Str)} {H H' : Hp} {a : Addr} {xs : List V} (t : LamX.Tabs T H) (b : But a H H') (h : H a = some (.lst xs)) : LamX.Tabs T H' := fun p hp => by
  obtain ⟨ps, h1, h2, h3⟩ := t p hp
  refine ⟨ps, b _ _ (fun z => by rw [z, h] at h1; cases h1) h1, h2, fun pos cv hc => ?_⟩
  obtain ⟨c, e1, e2⟩ := h3 pos cv hc
  refine ⟨c, e1, b _ _ (fun z => ?_) e2⟩
  rw [z, h] at e2
  have e3 := Option.some.inj e2
  unfold LamX.CodeO at e3
  cases e3
theorem Tabs.same {T : List (Addr × Str)} {H H' : Hp} (t : LamX.Tabs T H) (s : Same H H') : LamX.Tabs T H' := LamX.Tabs.ext t s
/-! ### bs.count(True) -/
theorem dpBs {K : PySem.W.Frag} {H : Hp} : ∀ (bs : List Bool), DpAll K H (bs.map V.bl) (bs.map PyData.bool)
  | [] => .nil
  | b :: bs => .cons (.bl b) (dpBs bs)
def rCountB (K : PySem.W.Frag) : V → List V → Hp → VK → Prop := fun x xs H Q => ∃ (a : Addr) (bs : List Bool), x = .ref a ∧ xs = [.bl true] ∧ SqL K H a (bs.map V.bl) ∧ Q (.int (bs.countP id : Nat)) H
theorem mt_countB {X : Cx} (hu : X.A.units + 65 < cLine) : MtR X "list.count" (rCountB X.K) := by
  intro pins s σ H x xs v us Q I rx rxs h
  obtain ⟨a, bs, rfl, rfl, hs, q⟩ := h
  cases rx
  cases rxs with
  | cons ry rt =>
    rename_i uy ut
    cases rt
    cases ry
    obtain ⟨its, rv, ⟨o, n, ho, hc, hdn, hdt⟩, hlen⟩ := I.list hs
    obtain ⟨as, h4⟩ := Dp.readsAll I (bs.map PyData.bool) _ its (dpBs bs) rv
    have pl : ∀ l : List Bool, PyData.plainAll (l.map PyData.bool) = true := fun l => by
      induction l with
      | nil => rfl
      | cons b l ih => simp [PyData.plainAll, PyData.plain, ih]
    have dp : ∀ l : List Bool, PyData.depthAll (l.map PyData.bool) = 0 := fun l => by
      induction l with
      | nil => rfl
      | cons b l ih => simp [PyData.depthAll, PyData.depth, ih]
    refine SeqAt.count_list_data (xs := bs.map PyData.bool) (vs := its.toArray) (d := .bool true) ⟨o, ho, hc, n, hdt⟩ (by simpa using h4) (.bool true) (pl bs) rfl (by rw [dp]; omega) ?_
    have e : (bs.map PyData.bool).countP (fun y => PyData.eqv y (.bool true)) = bs.countP id := by
      rw [List.countP_map]
      congr 1
      funext b
      cases b <;> rfl
    rw [e]
    exact ⟨.int (bs.countP id : Nat), H, I.tok _, ⟨_, rfl⟩, q⟩
end MB

set_option maxHeartbeats 4000000
namespace MB
open PySem PySem.Spec PyProof.Rows L2
/-! ### a lambda handed to a def, whose handler reads the def's own names: what the call lets out is told at the slots of the call -/
section
variable {X : Cx} {pins : List (Addr × Obj)} {σ : L2.St} {H : Hp} {s : Shared}
theorem pe_actE {CXg : CXT} {Eg : XK} {Ng : List Str} {qg : Str} {sg : Scope} {g f c' : Addr} {cdg pm ctv : Value} {params : Arguments} {body : Expr} {scope : Scope} {k i : Nat} {a : Str} {pn : List (Addr × Obj)} {xe : Value → Shared → Prop} {W : WX} {E : XK} {tb : TE} {p1 p2 : Pos}
    (I : Inv X pins σ H s) (L : LamX.LamS X.env.scope scope) (hf : s.heap.get? f = some (PySem.W.kla_obj "<lambda>" (X.env.qual ++ "<lambda>") params body scope (cloFrom X.env.cells scope.names []) pm c' ctv)) (hfn : H f = none) (hfr : f ∉ frs X.stack)
    (bnd : bindArgs (PySem.W.kla_fn "<lambda>" (X.env.qual ++ "<lambda>") params body scope (cloFrom X.env.cells scope.names []) pm (.ref c') ctv) ⟨[], []⟩ = pure [])
    (tk : Takes ((cxOf CXg X.prog X.w X.K X.mg X.base Ng qg sg g cdg X.A X.stack s H Eg).tr pn xe) W) (hr : Room (k + 1) (X.A.deeper (envOfC qg sg s.heap.objs.size g cdg)))
    (bodyOk : ∀ (A : Around) (outer : List Env) (s : Shared) (H : Hp), Room k (A.deeper (LamX.lamEnv X scope s.heap.objs.size f c')) → PE (LamX.lamCx X A outer s H E scope f c') body tb)
    (hN : Ng[i]? = some a) (vis : Vis sg a) (hd : (a == ("__debug__" : Str)) = false := by decide) (hcd : (a == ("__classdict__" : Str)) = false := by decide) :
    PE ((cxOf CXg X.prog X.w X.K X.mg X.base Ng qg sg g cdg X.A X.stack s H Eg).tr pn xe) (.Call (.Name a p1) [] [] p2)
      (fun σ2 H2 Q => σ2[i]? = some (some (.ref f)) ∧ H2 c' = some (LamX.CodeO c' (X.env.qual ++ "<lambda>")) ∧ (∀ cls d H', E cls d H' → W cls d σ2 H') ∧ tb σ H2 Q) :=
  ⟨fun pins2 s2 σ2 H2 Q J ⟨hs, hc, hW, ht⟩ => wpAny_Call_Name_kw (thn ((pe_var (pos := p1) (i := i) hN vis hd hcd).run pins2 s2 σ2 H2 (fun v G => v = .ref f ∧ G = H2) J ⟨.ref f, hs, rfl, rfl⟩) fun u s1 ⟨v, H1, J1, r1, ev, eH⟩ => by
    subst ev eH
    obtain rfl : u = Value.ref f := r1
    have kf := J1.base.keep f _ hf hfn hfr (fun z => nomatch (show f ∈ ([] : List Addr) from z))
    have un : Un (frs X.stack) [] H H1 s.heap s1.heap := J1.base
    obtain ⟨⟨oc, vs, t, q1, q2, q3⟩, _, _⟩ := J1.hok c' _ hc
    have run : codeAny (model X.prog X.w) (X.A.deeper (envOfC qg sg s.heap.objs.size g cdg)) (.call (.ref f) ⟨[], []⟩) (CR (L2.CX X.prog X.w) (envOfC qg sg s.heap.objs.size g cdg :: X.stack) X.prog X.w H1 s1 Q E) s1 := by
      refine PySem.W.kla_callFunE hr.depth kf rfl L.co L.gen rfl ⟨c', oc, vs, t, rfl, q1, q2, q3⟩ ?_
      rw [bnd]
      refine wpAny_pure (wpAny_newFunctionEnv (fun y hy => (L.own y hy).2) (fun y hy => absurd hy (by simp)) (fun h₁ n1 n2 => ⟨J1.nolimit.fresh _ n2, show codeAny _ _ (.expr body (LamX.lamEnv X scope s1.heap.objs.size f c')) _ _ from ?_⟩) L.kind)
      have st : Inv (LamX.lamCx X (X.A.deeper (envOfC qg sg s.heap.objs.size g cdg)) (envOfC qg sg s.heap.objs.size g cdg :: X.stack) s1 H1 E scope f c') [] σ H1 { s1 with heap := h₁, toks := s1.toks + ([] : List (Str × Value)).length } :=
        LamX.lam_start2 I L J1.env0 hr.hd un n1 fun b o e => n2.extBut b o (Nat.ne_of_lt (Heap.lt_size e)) (Heap.get?_push_of_some _ e)
      exact PySem.W.kla_codeExpr (wpAny_mono ((bodyOk _ _ s1 H1 (hr.deeper _)).run [] _ _ H1 Q st ht) (fun v s' ⟨y, H', J', rv, z⟩ => ⟨y, H', J'.os, J'.bare, J'.base, J'.hok, rv, z⟩) fun e s' z => z)
    refine PySem.W.callWith_F0 ⟨_, _, _, _, kf⟩ (wpAny_call (codeAny_mono run fun r s' z => ?_))
    rcases r with e | fl
    · exact tk e s' (XE.of_call J1 (fun cls d H' h => hW cls d H' h) z)
    · rcases fl with _ | _ | _ | u
      · exact False.elim z
      · exact False.elim z
      · exact False.elim z
      · exact J1.after z)⟩
end
/-- the def that calls what it got, TT: what it makes of the lambda's reading -/
def GivesE (X : Cx) (Ng : List Str) (x : Str) (sg : Scope) (g : Addr) (cdg : Value) (bg : List Stmt) (a : Str) (q : Str) (TT : (XK → Hp → VK → Prop) → Hp → VK → Prop) : Prop :=
  ∀ (f c' : Addr) (s : Shared) (H : Hp) (Q : VK) (tl : XK → Hp → VK → Prop),
    (∀ (W : WX) (pn : List (Addr × Obj)) (xe : Value → Shared → Prop) (E : XK) (p1 p2 : Pos), Takes ((cxOf CX0 X.prog X.w X.K X.mg X.base Ng x sg g cdg X.A X.stack s H E0).tr pn xe) W →
      PE ((cxOf CX0 X.prog X.w X.K X.mg X.base Ng x sg g cdg X.A X.stack s H E0).tr pn xe) (.Call (.Name a p1) [] [] p2) (fun σ2 H2 Q => σ2[0]? = some (some (.ref f)) ∧ H2 c' = some (LamX.CodeO c' q) ∧ (∀ cls d H', E cls d H' → W cls d σ2 H') ∧ tl E H2 Q)) →
    H c' = some (LamX.CodeO c' q) → TT tl H Q →
    ∃ t, PSs (cxOf CX0 X.prog X.w X.K X.mg X.base Ng x sg g cdg X.A X.stack s H E0).nox bg t ∧ t { nx := fun _ H' => Q .non H', rt := Q } (L2.start Ng [.ref f]) H
section
variable {X : Cx}
/-- x(lambda: body) -/
theorem pe_lamE {T : List (Addr × Str)} {TT : (XK → Hp → VK → Prop) → Hp → VK → Prop} {x a : Str} {g c P : Addr} {k : Nat} {pg : Arguments} {bg : List Stmt} {sg : Scope} {dV kV doc pm cdv ct oc : Value} {an od : Option Addr} {osl : Array (Option Value)} {Ng : List Str}
    {params : Arguments} {body : Expr} {scope : Scope} {t : XK → TE} {p lpos pos : Pos} (hg : Gl X x) (hm : X.mg x = some (.ref g)) (hk : PySem.W.keepIn X.K (.ref g) = true)
    (lk : X.K.lookup g = some ⟨oc, od, .func (PySem.W.fnOf x x pg bg sg dV kV doc pm an cdv ct), osl⟩) (hcg : PySem.W.codeIn X.K cdv x = true) (hb : L2.Binds X.K (PySem.W.fnOf x x pg bg sg dV kV doc pm an cdv ct) [a] []) (Sg : FnScope Ng [a] sg) (hNg : Ng[0]? = some a) (hva : Vis sg a)
    (hG : GivesE X Ng x sg g cdv bg a (X.env.qual ++ "<lambda>") TT)
    (TB : LamX.TabB X.base X.mg c P) (hcode : X.env.code = .ref c) (hmT : (P, X.env.qual ++ "<lambda>") ∈ T) (hu : ∀ p ∈ T, p.1 = P → p.2 = X.env.qual ++ "<lambda>") (hr : Room (k + 2) X.A) (L : LamX.LamS X.env.scope scope) (hdef : defaultsOf params X.env = ([], []))
    (hbind : ∀ (q : Str) (cl : List (Str × Addr)) (pm cv ctv : Value), bindArgs (PySem.W.kla_fn "<lambda>" q params body scope cl pm cv ctv) ⟨[], []⟩ = pure [])
    (hbody : ∀ (A : Around) (outer : List Env) (s : Shared) (H : Hp) (E : XK) (f c' : Addr), Room k (A.deeper (LamX.lamEnv X scope s.heap.objs.size f c')) → PE (LamX.lamCx X A outer s H E scope f c') body (t E))
    (hdb : (x == ("__debug__" : Str)) = false := by decide) (hd : (a == ("__debug__" : Str)) = false := by decide) (hcd : (a == ("__classdict__" : Str)) = false := by decide) :
    PE X (.Call (.Name x p) [.Lambda params body scope lpos] [] pos) (LamX.tLam T TT t) :=
  ⟨fun pins s σ H Q I ⟨hT, h⟩ => wpAny_Call_Name_kw (ld_glob I hg hm (PySem.W.callWith_K (h₀ := X.base) I.ok.mod.kin hk
      (show wpAny _ _ (spliced ((false, eval (.Lambda params body scope lpos) X.env) :: backTo pos (starEach [] X.env))) _ _ s from Calls.spliced_cons (LamX.lam_make2 I TB hcode hmT hu hT hdef (L.has I.ok) fun f c' pm' ctv H1 s1 J eN T1 hf hfn hfr hco => Calls.spliced_nil ⟨J.kIn, by
        have run : codeAny (model X.prog X.w) X.A (.call (.ref g) ⟨[.ref f], []⟩) (CR CX0 X.stack X.prog X.w H1 s1 Q E0) s1 := by
          refine LamX.run_ofS (N := Ng) (ps := [a]) (us := [.ref f]) (vs := [.ref f]) lk hcg Sg hr J.env0 (hb s1 [.ref f] J.kIn rfl) (.cons rfl .nil) rfl fun hr' => ?_
          obtain ⟨t', g1, g2⟩ := hG f c' s1 H1 Q (fun E H' Q' => t E σ H' Q') (fun W pn xe E p1 p2 tk => pe_actE (i := 0) J L hf hfn hfr (hbind _ _ _ _ _) tk hr' (fun A outer s H hr2 => hbody A outer s H E f c' hr2) hNg hva hd hcd) hco (h H1 eN T1)
          exact ⟨t', g1.nox, g2⟩
        refine wpAny_call (codeAny_mono run fun r s2 z => ?_)
        rcases r with e | fl
        · exact (show False from z).elim
        · rcases fl with _ | _ | _ | u
          · exact False.elim z
          · exact False.elim z
          · exact False.elim z
          · exact J.after z⟩)) (by rfl) (by rfl)) hdb)⟩
end
end MB

set_option maxHeartbeats 4000000
namespace MB
open PySem PySem.Spec PyProof.Rows L2
theorem blT {c : Prop} [Decidable c] (h : c) : V.bl (decide c) = V.bl true := by rw [decide_eq_true h]
theorem blF {c : Prop} [Decidable c] (h : ¬ c) : V.bl (decide c) = V.bl false := by rw [decide_eq_false h]
theorem nblF {c : Prop} [Decidable c] (h : c) : V.bl (!decide c) = V.bl false := by rw [decide_eq_true h]; rfl
theorem nblT {c : Prop} [Decidable c] (h : ¬ c) : V.bl (!decide c) = V.bl true := by rw [decide_eq_false h]; rfl
theorem int_ne {i j : Int} (h : i ≠ j) : ¬ V.int i = V.int j := fun e => h (by injection e)
theorem dp_bls_inv {K : PySem.W.Frag} {H : Hp} : ∀ {ns : List Bool} {vs : List V}, DpAll K H vs (ns.map PyData.bool) → vs = ns.map V.bl
  | [], _, .nil => rfl
  | n :: ns, _, .cons a b => by
    cases a
    rw [dp_bls_inv b]
    rfl
/-- a comprehension whose items are truth values -/
theorem lc_bools {K : PySem.W.Frag} {J : It} {n : Nat} {G : Hp → Prop} {Y : Nat → Hp → V → Hp → Prop} (w : Walk J n G Y) {g : TG} {tt : TT} {te : TE} {vs : List Nat} {σ : L2.St} {H1 : Hp} {D : Addr} {Qd : Hp → Prop}
    (bs : List Bool) (hl : bs.length = n) (hn : n ≤ 1000) (hD : H1 D = none) (hG : ∀ H, Same H1 H → G H)
    (hs : ∀ i x H H', i < n → Same H1 H → Y i H x H' → ∀ b, bs[i]? = some b → ∀ R : V → Hp → Prop, (∀ H4, Same H H4 → R (.bl b) H4) →
      g x (wipe σ vs) H' fun σ2 H2 => wipe σ2 vs = wipe σ vs ∧ tt σ2 H2 fun b H3 => b = true ∧ te σ2 H3 R)
    (hd : ∀ H, Same H1 H → H D = some (.lst (bs.map V.bl)) → Qd H)
    (mg : ∀ x σ' H' (Q Q' : L2.St → Hp → Prop), (∀ a b, Q a b → Q' a b) → g x σ' H' Q → g x σ' H' Q') (mt : ∀ σ' H' (Q Q' : Bool → Hp → Prop), (∀ a b, Q a b → Q' a b) → tt σ' H' Q → tt σ' H' Q') :
    ∃ W : Nat → Nat → Hp → Prop, (∃ m, W 0 m (upd H1 D (.lst []))) ∧ ∀ i m H, W i m H →
      (J.stop i H ∧ Qd H) ∨ (J.go i H ∧ ∃ Nx : Hp → Prop, (∀ H', Nx H' → ∃ m', m' < m ∧ W (i + 1) m' H') ∧ ∀ x H', J.yld i H x H' → g x (wipe σ vs) H' fun σ2 H2 => wipe σ2 vs = wipe σ vs ∧ tt σ2 H2 fun b H3 =>
        if b = true then te σ2 H3 fun y H4 => ∃ acc, H4 D = some (.lst acc) ∧ acc.length < sizeLine ∧ Nx (upd H4 D (.lst (acc ++ [y]))) else Nx H3) := by
  refine lc_all (K := K) w (bs.map PyData.bool) (by rw [List.length_map, hl]) (fun d h => ?_) hn hD hG ?_ ?_ mg mt
  · obtain ⟨b, _, rfl⟩ := List.mem_map.mp h
    exact .bl b
  · intro i x H H' hi s y d hd' R hR
    rw [List.getElem?_map] at hd'
    cases e : bs[i]? with
    | none => rw [e] at hd'; cases hd'
    | some b =>
      rw [e] at hd'
      cases hd'
      exact hs i x H H' hi s y b e R fun H4 s4 => hR _ _ s4 (.bl b)
  · intro H acc s ha hA
    rw [dp_bls_inv hA] at ha
    exact hd H s ha
/-- a comprehension whose items are numbers -/
theorem lc_ints {K : PySem.W.Frag} {J : It} {n : Nat} {G : Hp → Prop} {Y : Nat → Hp → V → Hp → Prop} (w : Walk J n G Y) {g : TG} {tt : TT} {te : TE} {vs : List Nat} {σ : L2.St} {H1 : Hp} {D : Addr} {Qd : Hp → Prop}
    (bs : List Int) (hl : bs.length = n) (hn : n ≤ 1000) (hD : H1 D = none) (hG : ∀ H, Same H1 H → G H)
    (hs : ∀ i x H H', i < n → Same H1 H → Y i H x H' → ∀ b, bs[i]? = some b → ∀ R : V → Hp → Prop, (∀ H4, Same H H4 → R (.int b) H4) →
      g x (wipe σ vs) H' fun σ2 H2 => wipe σ2 vs = wipe σ vs ∧ tt σ2 H2 fun b H3 => b = true ∧ te σ2 H3 R)
    (hd : ∀ H, Same H1 H → H D = some (.lst (bs.map V.int)) → Qd H)
    (mg : ∀ x σ' H' (Q Q' : L2.St → Hp → Prop), (∀ a b, Q a b → Q' a b) → g x σ' H' Q → g x σ' H' Q') (mt : ∀ σ' H' (Q Q' : Bool → Hp → Prop), (∀ a b, Q a b → Q' a b) → tt σ' H' Q → tt σ' H' Q') :
    ∃ W : Nat → Nat → Hp → Prop, (∃ m, W 0 m (upd H1 D (.lst []))) ∧ ∀ i m H, W i m H →
      (J.stop i H ∧ Qd H) ∨ (J.go i H ∧ ∃ Nx : Hp → Prop, (∀ H', Nx H' → ∃ m', m' < m ∧ W (i + 1) m' H') ∧ ∀ x H', J.yld i H x H' → g x (wipe σ vs) H' fun σ2 H2 => wipe σ2 vs = wipe σ vs ∧ tt σ2 H2 fun b H3 =>
        if b = true then te σ2 H3 fun y H4 => ∃ acc, H4 D = some (.lst acc) ∧ acc.length < sizeLine ∧ Nx (upd H4 D (.lst (acc ++ [y]))) else Nx H3) := by
  refine lc_all (K := K) w (bs.map PyData.int) (by rw [List.length_map, hl]) (tf_ints _) hn hD hG ?_ ?_ mg mt
  · intro i x H H' hi s y d hd' R hR
    rw [List.getElem?_map] at hd'
    cases e : bs[i]? with
    | none => rw [e] at hd'; cases hd'
    | some b =>
      rw [e] at hd'
      cases hd'
      exact hs i x H H' hi s y b e R fun H4 s4 => hR _ _ s4 (.int b)
  · intro H acc s ha hA
    rw [dp_ints_inv hA] at ha
    exact hd H s ha
theorem k_pgTN {X : Cx} {K : PySem.W.Frag} {x y z : Str} {px py pz p1 : Pos} {k k1 : Nat} {pos : Pos} {t1 t2 : TG} (hK : X.K = K) (hc : X.calm = true) (h1 : PG X (.Tuple [.Name x px, .Name y py] k1 p1) t1) (h2 : PG X (.Name z pz) t2) : PG X (.Tuple [.Tuple [.Name x px, .Name y py] k1 p1, .Name z pz] k pos) (gTup K 2 (gCons t1 (gCons t2 gNil))) := by
  subst hK
  exact pg_tup hc (pgs_cons h1 (pgs_cons h2 pgs_nil))
theorem mono_pair2 {K : PySem.W.Frag} {n n' i j l : Nat} (x : V) (σ' : L2.St) (H' : Hp) (Q Q' : L2.St → Hp → Prop) (h : ∀ a b, Q a b → Q' a b) (e : gTup K n (gCons (gTup K n' (gCons (gName i) (gCons (gName j) gNil))) (gCons (gName l) gNil)) x σ' H' Q) : gTup K n (gCons (gTup K n' (gCons (gName i) (gCons (gName j) gNil))) (gCons (gName l) gNil)) x σ' H' Q' := by
  obtain ⟨a, xs, e1, e2, e3, v, r, e4, b, ys, f1, f2, f3, v1, r1, f4, v2, r2, f5, f6, v', r', e5, e6, q⟩ := e
  exact ⟨a, xs, e1, e2, e3, v, r, e4, b, ys, f1, f2, f3, v1, r1, f4, v2, r2, f5, f6, v', r', e5, e6, h _ _ q⟩
theorem ci_sum : ∀ p : List Nat, (ci p).sum = ((p.sum : Nat) : Int)
  | [] => rfl
  | x :: p => by
    have := ci_sum p
    simp only [ci, List.map_cons, List.sum_cons, Int.natCast_add] at this ⊢
    rw [this]
theorem cutV_to {p : List Nat} {m : Nat} (h : m ≤ p.length) : cutV (vi p) none (some (m : Int)) = vi (p.take m) := by
  rw [cut_to (by rw [vi_len]; exact h)]; simp [vi, List.map_take]
theorem cutV_from {p : List Nat} {m : Nat} (h : m ≤ p.length) : cutV (vi p) (some (m : Int)) none = vi (p.drop m) := by
  rw [cut_from (by rw [vi_len]; exact h)]; simp [vi, List.map_drop]
theorem cut_drop {p : List Nat} {m : Nat} (h : m ≤ p.length) : cutV (vi p) (some (m : Int)) none = (ci (p.drop m)).map V.int := by
  rw [cutV_from h, vi_ci]
theorem isi_int {K : PySem.W.Frag} {H : Hp} {i : Int} {Q : VK} (q : Q (.bl true) H) : rIsi K [.int i, .ty "int"] H Q :=
  ⟨.int i, .ty "int", .type "int", .type "int", true, rfl, .ty _, .base (.int i), kit_ty (by decide +kernel), q⟩
theorem isi_bool {K : PySem.W.Frag} {H : Hp} {i : Int} {Q : VK} (q : Q (.bl false) H) : rIsi K [.int i, .ty "bool"] H Q :=
  ⟨.int i, .ty "bool", .type "int", .type "bool", false, rfl, .ty _, .base (.int i), kit_ty (by decide +kernel), q⟩
theorem nth3 {n : Nat} (x : List V) (h : x.length = n) (i : Nat) (hi : i < (if (if (x.length : Int) < 3 then (x.length : Int) else 3) > 1 then (if (x.length : Int) < 3 then (x.length : Int) else 3) else 1 : Int).toNat) : i ≤ 62 := by
  have : (if (if (x.length : Int) < 3 then (x.length : Int) else 3) > 1 then (if (x.length : Int) < 3 then (x.length : Int) else 3) else 1) ≤ 3 := by split <;> split <;> omega
  omega
end MB

set_option maxHeartbeats 4000000
namespace MB
/-! ### binomial coefficients -/
def bin : Nat → Nat → Nat
  | _, 0 => 1
  | 0, _ + 1 => 0
  | n + 1, k + 1 => bin n k + bin n (k + 1)
theorem bin_zero (n : Nat) : bin n 0 = 1 := by cases n <;> rfl
theorem bin_succ (n k : Nat) : bin (n + 1) (k + 1) = bin n k + bin n (k + 1) := rfl
theorem bin_lt : ∀ {n k : Nat}, n < k → bin n k = 0
  | 0, k + 1, _ => rfl
  | n + 1, k + 1, h => by rw [bin_succ, bin_lt (n := n) (by omega), bin_lt (n := n) (by omega)]
theorem bin_self : ∀ n : Nat, bin n n = 1
  | 0 => rfl
  | n + 1 => by rw [bin_succ, bin_self n, bin_lt (by omega)]
theorem bin_one : ∀ n : Nat, bin n 1 = n
  | 0 => rfl
  | n + 1 => by rw [bin_succ, bin_zero, bin_one n]; omega
theorem bin_pos : ∀ {n k : Nat}, k ≤ n → 0 < bin n k
  | n, 0, _ => by rw [bin_zero]; decide
  | n + 1, k + 1, h => by rw [bin_succ]; have := bin_pos (n := n) (k := k) (by omega); omega
theorem bin_mul : ∀ n k : Nat, bin (n + 1) (k + 1) * (k + 1) = (n + 1) * bin n k
  | 0, 0 => by decide
  | 0, k + 1 => by simp [bin]
  | n + 1, 0 => by rw [bin_one, bin_zero]
  | n + 1, k + 1 => by
    have h1 := bin_mul n k
    have h2 := bin_mul n (k + 1)
    rw [bin_succ (n + 1) (k + 1), Nat.add_mul, h2]
    have e1 : bin (n + 1) (k + 1) * (k + 1 + 1) = bin (n + 1) (k + 1) * (k + 1) + bin (n + 1) (k + 1) := by rw [Nat.mul_add, Nat.mul_one]
    rw [e1, h1, bin_succ n k]
    grind
/-- the next one in a row -/
theorem bin_step {n j : Nat} (h : j ≤ n) : bin n (j + 1) * (j + 1) = bin n j * (n - j) := by
  have h1 := bin_mul n j
  rw [bin_succ, Nat.add_mul] at h1
  have e : (n + 1) * bin n j = bin n j * (n - j) + bin n j * (j + 1) := by rw [← Nat.mul_add, Nat.mul_comm]; congr 1; omega
  omega
theorem bin_div {n j : Nat} (h : j ≤ n) : bin n j * (n - j) / (j + 1) = bin n (j + 1) := by
  rw [← bin_step h, Nat.mul_div_cancel _ (by omega)]
theorem bin_sym : ∀ a b : Nat, bin (a + b) a = bin (a + b) b
  | 0, b => by rw [Nat.zero_add, bin_zero, bin_self]
  | a + 1, 0 => by rw [Nat.add_zero, bin_zero, bin_self]
  | a + 1, b + 1 => by
    have e : a + 1 + (b + 1) = (a + b + 1) + 1 := by omega
    rw [e, bin_succ (a + b + 1) a, bin_succ (a + b + 1) b]
    have h1 := bin_sym a (b + 1)
    have h2 := bin_sym (a + 1) b
    have e1 : a + (b + 1) = a + b + 1 := by omega
    have e2 : a + 1 + b = a + b + 1 := by omega
    rw [e1] at h1; rw [e2] at h2
    omega
theorem bin_sub {n k : Nat} (h : k ≤ n) : bin n (n - k) = bin n k := by
  have := bin_sym k (n - k)
  rw [show k + (n - k) = n by omega] at this
  exact this.symm
theorem bin_min {n k : Nat} (h : k ≤ n) : bin n (min k (n - k)) = bin n k := by
  by_cases c : k ≤ n - k
  · rw [Nat.min_eq_left c]
  · rw [Nat.min_eq_right (by omega), bin_sub h]
theorem bin_mono1 : ∀ n k : Nat, bin n k ≤ bin (n + 1) k
  | n, 0 => by rw [bin_zero, bin_zero]; exact Nat.le_refl _
  | n, k + 1 => by rw [bin_succ]; omega
theorem bin_mono {n m : Nat} (k : Nat) (h : n ≤ m) : bin n k ≤ bin m k := by
  induction h with
  | refl => exact Nat.le_refl _
  | step _ ih => exact Nat.le_trans ih (bin_mono1 _ _)
theorem bin_strict1 {n k : Nat} (h : k ≤ n + 1) : bin n (k + 1) < bin (n + 1) (k + 1) ∨ n < k := by
  by_cases c : n < k
  · exact .inr c
  · refine .inl ?_
    rw [bin_succ]
    have := bin_pos (n := n) (k := k) (by omega)
    omega
theorem bin_strict {n m k : Nat} (hk : 1 ≤ k) (hn : k ≤ n + 1) (h : n < m) : bin n k < bin m k := by
  have h1 : bin n k < bin (n + 1) k := by
    obtain ⟨j, rfl⟩ : ∃ j, k = j + 1 := ⟨k - 1, by omega⟩
    rw [bin_succ]
    have := bin_pos (n := n) (k := j) (by omega)
    omega
  exact Nat.lt_of_lt_of_le h1 (bin_mono k h)
theorem bin_pow : ∀ n k : Nat, bin n k ≤ (n + 1) ^ k
  | n, 0 => by rw [bin_zero]; simp
  | 0, k + 1 => by rw [bin_lt (by omega)]; exact Nat.zero_le _
  | n + 1, k + 1 => by
    have h := bin_mul n k
    have h1 : bin (n + 1) (k + 1) ≤ bin (n + 1) (k + 1) * (k + 1) := Nat.le_mul_of_pos_right _ (by omega)
    have h2 := bin_pow n k
    have h3 : (n + 1) ^ k ≤ (n + 1 + 1) ^ k := Nat.pow_le_pow_left (by omega) _
    have h4 : (n + 1) * bin n k ≤ (n + 1 + 1) * (n + 1 + 1) ^ k := Nat.mul_le_mul (by omega) (Nat.le_trans h2 h3)
    have h5 : (n + 1 + 1) ^ (k + 1) = (n + 1 + 1) * (n + 1 + 1) ^ k := by rw [Nat.pow_succ, Nat.mul_comm]
    omega
theorem bin_bits {n k : Nat} (hn : n < 2 ^ 64) (hk : k ≤ 64) : bin n k < 2 ^ 4097 := by
  have h1 := bin_pow n k
  have h2 : (n + 1) ^ k ≤ (2 ^ 64) ^ k := Nat.pow_le_pow_left (by omega) _
  have h3 : (2 ^ 64) ^ k ≤ (2 ^ 64 : Nat) ^ 64 := Nat.pow_le_pow_right (by decide) hk
  have h4 : ((2 ^ 64 : Nat) ^ 64) < 2 ^ 4097 := by decide +kernel
  omega
theorem bin_big {k c : Nat} (hk : 1 ≤ k) : c + 1 ≤ bin (k + c) k := by
  induction c with
  | zero => show 1 ≤ bin k k; rw [bin_self]; exact Nat.le_refl _
  | succ c ih =>
    have := bin_strict (n := k + c) (m := k + (c + 1)) (k := k) hk (by omega) (by omega)
    omega
/-- c is the least with n < C(k + c, k) -/
def Lw (k n c : Nat) : Prop := n < bin (k + c) k ∧ ∀ d, d < c → bin (k + d) k ≤ n
theorem Lw.uniq {k n c d : Nat} (a : Lw k n c) (b : Lw k n d) : c = d := by
  rcases Nat.lt_trichotomy c d with h | h | h
  · have := b.2 c h; have := a.1; omega
  · exact h
  · have := a.2 d h; have := b.1; omega
theorem Lw.mk' {k n c : Nat} (h : n < bin (k + c) k) (h' : c = 0 ∨ bin (k + (c - 1)) k ≤ n) : Lw k n c := by
  refine ⟨h, fun d hd => ?_⟩
  rcases h' with e | e
  · omega
  · exact Nat.le_trans (bin_mono k (by omega)) e
def lwGo (k n : Nat) : Nat → Nat → Nat
  | 0, c => c
  | f + 1, c => if n < bin (k + c) k then c else lwGo k n f (c + 1)
def lwr (k n : Nat) : Nat := lwGo k n (n + 1) 0
theorem lwGo_ok {k n : Nat} (hk : 1 ≤ k) : ∀ f c, (∀ d, d < c → bin (k + d) k ≤ n) → n < f + c → Lw k n (lwGo k n f c)
  | 0, c, h, hf => ⟨by have := bin_big (k := k) (c := c) hk; unfold lwGo; omega, h⟩
  | f + 1, c, h, hf => by
    unfold lwGo
    by_cases hc : n < bin (k + c) k
    · rw [if_pos hc]; exact ⟨hc, h⟩
    · rw [if_neg hc]
      refine lwGo_ok hk f (c + 1) (fun d hd => ?_) (by omega)
      by_cases e : d < c
      · exact h d e
      · have : d = c := by omega
        subst this; omega
theorem lw_ok {k : Nat} (n : Nat) (hk : 1 ≤ k) : Lw k n (lwr k n) := lwGo_ok hk _ _ (fun _ h => absurd h (by omega)) (by omega)
theorem lwr_le {k n : Nat} (hk : 1 ≤ k) : lwr k n ≤ n := by
  have h := (lw_ok n hk).2
  by_cases c : lwr k n ≤ n
  · exact c
  · have h1 := h n (by omega)
    have := bin_big (k := k) (c := n) hk
    omega
end MB

set_option maxHeartbeats 4000000
namespace MB
open PySem PySem.Spec PyProof.Rows L2

/-! ### sorted(xs), xs a list of tuples of ints, of any length -/
def dT (ns : List Int) : PyData := .tuple (ns.map PyData.int)
def kT (ns : List Int) : List (Int ⊕ List Nat) := ns.map Sum.inl
def ltT (a b : List Int) : Bool := lexLt itemOrd (kT a) (kT b)
def noS : Nat → Bool := fun _ => false
theorem items_ints : ∀ {vs : List Value} {ns : List Int}, IntsAre vs ns → ∀ i : Nat, tupItems noS i vs = some (kT ns)
  | _, _, .nil, _ => rfl
  | _, _, .cons n t h, i => by
    have ih := items_ints h (i + 1)
    show (if noS i = true then none else (tupItems noS (i + 1) _).map (Sum.inl n :: ·)) = _
    rw [if_neg (by simp [noS]), ih]; rfl
theorem key_of {h : Heap} {v : Value} {ns : List Int} (x : TS.TupInts h v ns) : G.tupKeyC h noS v = some (kT ns) := by
  obtain ⟨a, xs, rfl, ⟨o, ho, hc, n, hd⟩, hi⟩ := x
  unfold G.tupKeyC
  have e1 : G.isTupObj h (.ref a) = true := by simp [G.isTupObj, ho, hc]
  rw [if_pos e1]
  show (match h.get? a with | some o => (match o.data with | .seq xs _ => tupItems noS 0 xs.toList | _ => none) | none => none) = _
  rw [ho]
  show (match o.data with | .seq xs _ => tupItems noS 0 xs.toList | _ => none) = _
  rw [hd]
  exact items_ints hi 0
theorem tup_of {h : Heap} {v : Value} {n : Int} {ns : List Int} (x : TS.TupInts h v (n :: ns)) : ∃ f, TupOf h noS v f := by
  obtain ⟨a, xs, rfl, ⟨o, ho, hc, m, hd⟩, hi⟩ := x
  obtain ⟨l⟩ := xs
  cases hi with
  | cons n t h => exact ⟨_, a, o, _, m, rfl, ho, hc, hd, rfl, fun _ => ⟨_, _, rfl⟩, fun e => nomatch e⟩
section
variable {X : Cx} {pins : List (Addr × Obj)} {σ : L2.St} {H : Hp} {s : Shared}
theorem tups_raw (I : Inv X pins σ H s) : ∀ {xs : List V} {nss : List (List Int)} {its : List Value}, DpAll X.K H xs (nss.map dT) → Vals xs its →
    nss = its.map (TS.intsOf s.heap) ∧ (∀ u ∈ its, ∃ a, u = Value.ref a ∧ TS.TupInts s.heap u (TS.intsOf s.heap u) ∧ SqT X.K H a ((TS.intsOf s.heap u).map V.int))
  | _, [], _, .nil, .nil => ⟨rfl, fun _ h => nomatch h⟩
  | _, ns :: nss, _, .cons a b, .cons r rs => by
    obtain ⟨h1, h2⟩ := tups_raw I b rs
    obtain ⟨p, rfl, hp⟩ := Dp.intsInv a
    cases r
    have ht := tupI_raw I hp
    have e := ht.ints
    refine ⟨by rw [h1, List.map_cons, e], fun u hu => ?_⟩
    rcases List.mem_cons.mp hu with rfl | hu
    · exact ⟨p, rfl, by rw [e]; exact ht, by rw [e]; exact hp⟩
    · exact h2 u hu
theorem dps_of {K : PySem.W.Frag} {h : Heap} : ∀ {us : List Value}, (∀ u ∈ us, ∃ a, u = Value.ref a ∧ TS.TupInts h u (TS.intsOf h u) ∧ SqT K H a ((TS.intsOf h u).map V.int)) → DpAll K H (us.map bkV) ((us.map (TS.intsOf h)).map dT)
  | [], _ => .nil
  | u :: us, hh => by
    obtain ⟨a, rfl, _, hp⟩ := hh u (List.mem_cons_self ..)
    exact .cons (dp_tup hp) (dps_of fun v hv => hh v (List.mem_cons_of_mem _ hv))
def rSortI (K : PySem.W.Frag) : List V → Hp → VK → Prop := fun vs H Q => ∃ (a : Addr) (xs : List V) (nss : List (List Int)), vs = [V.ref a] ∧ SqL K H a xs ∧ DpAll K H xs (nss.map dT) ∧ (2 ≤ nss.length → ∀ ns ∈ nss, ns ≠ []) ∧
  ∀ (ys : List V) (mss : List (List Int)) (p : Addr), DpAll K H ys (mss.map dT) → mss.Perm nss → mss.Pairwise (fun a b => ltT b a = false) → H p = none → Q (.ref p) (upd H p (.lst ys))
theorem tupsOf_ex {h : Heap} : ∀ {us : List Value}, (∀ u ∈ us, TS.TupInts h u (TS.intsOf h u) ∧ TS.intsOf h u ≠ []) → ∃ fs, TupsOf h noS us fs
  | [], _ => ⟨[], .nil⟩
  | u :: us, hh => by
    obtain ⟨fs, hf⟩ := tupsOf_ex fun v hv => hh v (List.mem_cons_of_mem _ hv)
    obtain ⟨h1, h2⟩ := hh u (List.mem_cons_self ..)
    cases e : TS.intsOf h u with
    | nil => exact absurd e h2
    | cons n ns =>
      rw [e] at h1
      obtain ⟨f, ht⟩ := tup_of h1
      exact ⟨f :: fs, .cons ht hf⟩
theorem cr_sortI : CallR X (.builtin "sorted") (rSortI X.K) := by
  intro pins s σ H vs us Q I r h
  obtain ⟨a, xs, nss, rfl, hs, hA, hne, q⟩ := h
  obtain ⟨its, rv, hl, hz⟩ := I.list hs
  rw [Vals.ref1 r]
  obtain ⟨e1, e2⟩ := tups_raw I hA rv
  have hlen : its.length = nss.length := by rw [e1, List.length_map]
  have hk : ∀ v, v ∈ its → ∃ l, G.tupKeyC s.heap noS v = some l := fun v hv => by
    obtain ⟨b, _, ht, _⟩ := e2 v hv
    exact ⟨_, key_of ht⟩
  have hL : its.length ≤ sizeLine := by rw [← rv.length]; exact hz
  refine G.sortedG (κ := G.tupKindC s.heap noS) (kd := tuples' true) hl.isList (G.tupKeys hk) (fun s₂ k => G.tupC_ltAt (s := s₂) true k) (fun h2 A' E' s₂ Q' k hq => ?_) hL fun st' h1 h2 h3 => ?_
  · obtain ⟨fs, ht⟩ := tupsOf_ex (h := s.heap) (us := its) fun u hu => by
      obtain ⟨b, _, ht, _⟩ := e2 u hu
      refine ⟨ht, hne (by omega) _ ?_⟩
      rw [e1]; exact List.mem_map.mpr ⟨u, hu, rfl⟩
    exact tup_kind (s := s₂) (by rw [G.TupsOf.length ht]; omega) (G.TupsOf.keep k ht) hq
  · have hp : (arrOf st').toList.Perm (its.zip its) := by rw [← pairsOf_toList]; exact Array.perm_iff_toList_perm.mp h1
    have hself : ∀ p ∈ (arrOf st').toList, p.1 = p.2 ∧ p.1 ∈ its := fun p hm => mem_zip_self (hp.mem_iff.mp hm)
    have hout : ((arrOf st').map (·.2)).toList = (arrOf st').toList.map (·.2) := Array.toList_map
    have hpo : ((arrOf st').map (·.2)).toList.Perm its := by
      rw [hout]
      refine (hp.map (·.2)).trans ?_
      rw [List.map_snd_zip (Nat.le_refl _)]
    obtain ⟨ep, he'⟩ := PyProof.Rows.sortedAll_at s.heap its ((arrOf st').map (·.2))
    generalize ho : ((arrOf st').map (·.2)) = out at hpo he' hout ⊢
    have e3 : ∀ u ∈ out.toList, ∃ a, u = Value.ref a ∧ TS.TupInts s.heap u (TS.intsOf s.heap u) ∧ SqT X.K H a ((TS.intsOf s.heap u).map V.int) := fun u hu => e2 u (hpo.mem_iff.mp hu)
    have h3' : ∀ u ∈ out.toList, ∃ a, u = Value.ref a := fun u hu => let ⟨a, e, _⟩ := e3 u hu; ⟨a, e⟩
    have hl2 : (out.toList.map bkV).length ≤ sizeLine := by rw [List.length_map, hpo.length_eq]; exact hL
    refine ⟨.ref _, upd H (s.heap.objs.size + 1) (.lst (out.toList.map bkV)), I.laid (t' := s.toks) (fun _ _ => PyProof.Rows.sortedAll_old) (Nat.le_succ _) ⟨hl2, out.toList, ep, bkV_vals h3', he'⟩, rfl, q _ (out.toList.map (TS.intsOf s.heap)) _ (dps_of e3) (by rw [e1]; exact hpo.map _) ?_ (I.hok.fresh (Nat.le_succ _))⟩
    rw [List.pairwise_map]
    refine List.pairwise_iff_getElem.mpr fun i j hi hj hij => ?_
    have hsz : out.toList.length = (arrOf st').size := by rw [hout, List.length_map, Array.length_toList]
    have hpz : (arrOf st').size = (pairsOf its).size := h1.size_eq
    have kk : ∀ m (hm : m < out.toList.length), KK (G.tupKindC s.heap noS) (arrOf st') m = kT (TS.intsOf s.heap out.toList[m]) := fun m hm => by
      have hm2 : m < (arrOf st').size := by omega
      have em : (arrOf st')[m]? = some (arrOf st')[m] := Array.getElem?_eq_getElem hm2
      have hmem : (arrOf st')[m] ∈ (arrOf st').toList := Array.mem_toList_iff.mpr (Array.getElem_mem hm2)
      obtain ⟨f1, f2⟩ := hself _ hmem
      have f3 : out.toList[m] = (arrOf st')[m].2 := by
        simp only [hout, List.getElem_map, Array.getElem_toList]
      unfold KK
      rw [em]
      obtain ⟨b, _, ht, _⟩ := e2 _ f2
      show (G.tupKeyC s.heap noS (arrOf st')[m].1).getD [] = _
      rw [key_of ht, f3, ← f1]; rfl
    have := h2 i j (Nat.le_of_lt hij) (by omega)
    rw [kk i hi, kk j hj] at this
    exact this
end
end MB

set_option maxHeartbeats 4000000
namespace MB
open PySem PySem.Spec PyProof.Rows L2
/-! ### sorted(d), the keys of d tuples of ints -/
theorem kdl_rawD {prog : Program} {w : World} {d : Addr} {es : Array DictEntry} {ep : Nat} (lo : (d == sysModules) = false) :
    PySem.W.KdlSrc prog w "dict" d d es.size (fun i v => ∃ hi : i < es.size, v = es[i].key) (fun g => g.DictRaw d es ep) where
  type := fun _ g => g.typeIs
  there := fun _ g => ⟨let ⟨_, e, _⟩ := g; Heap.lt_size e, let ⟨_, e, _⟩ := g; Heap.lt_size e⟩
  keep := fun _ _ g k => g.at fun o e => k d (.inl rfl) o e
  notList := by decide
  notTuple := by decide
  hint := fun _ _ _ _ g q => PySem.W.kdl_hint_dict g.typeIs q
  iter := fun _ _ hh g => ⟨_, _, (fun _ _ q => wpAny_pyIter_dict_raw lo g q), Walks.rawKeys hh _ d (Nat.ne_of_lt (let ⟨_, e, _⟩ := g; Heap.lt_size e)) es ep, ⟨⟨_, Heap.get?_push_size _ rfl, rfl, rfl⟩, g.at fun o e => Heap.get?_push_of_some _ e⟩⟩
section
variable {X : Cx} {pins : List (Addr × Obj)} {σ : L2.St} {H : Hp} {s : Shared}
/-- what sorting gives, read back as tracked tuples -/
theorem sort_out (I : Inv X pins σ H s) {its : List Value} {nss : List (List Int)} (e1 : nss = its.map (TS.intsOf s.heap))
    (e2 : ∀ u ∈ its, ∃ a, u = Value.ref a ∧ TS.TupInts s.heap u (TS.intsOf s.heap u) ∧ SqT X.K H a ((TS.intsOf s.heap u).map V.int)) {st' : SortSt}
    (h1 : (arrOf st').Perm (pairsOf its)) (h2 : SortedToK (G.tupKindC s.heap noS) (arrOf st') (pairsOf its).size) :
    ∃ (us : List Value) (ys : List V) (mss : List (List Int)), ((arrOf st').map (·.2)).toList = us ∧ Vals ys us ∧ ys.length = its.length ∧ DpAll X.K H ys (mss.map dT) ∧ mss.Perm nss ∧ mss.Pairwise (fun a b => ltT b a = false) := by
  have hp : (arrOf st').toList.Perm (its.zip its) := by rw [← pairsOf_toList]; exact Array.perm_iff_toList_perm.mp h1
  have hself : ∀ p ∈ (arrOf st').toList, p.1 = p.2 ∧ p.1 ∈ its := fun p hm => mem_zip_self (hp.mem_iff.mp hm)
  have hout : ((arrOf st').map (·.2)).toList = (arrOf st').toList.map (·.2) := Array.toList_map
  have hpo : ((arrOf st').map (·.2)).toList.Perm its := by
    rw [hout]
    refine (hp.map (·.2)).trans ?_
    rw [List.map_snd_zip (Nat.le_refl _)]
  generalize ho : ((arrOf st').map (·.2)).toList = us at hpo hout ⊢
  have e3 : ∀ u ∈ us, ∃ a, u = Value.ref a ∧ TS.TupInts s.heap u (TS.intsOf s.heap u) ∧ SqT X.K H a ((TS.intsOf s.heap u).map V.int) := fun u hu => e2 u (hpo.mem_iff.mp hu)
  refine ⟨us, us.map bkV, us.map (TS.intsOf s.heap), rfl, bkV_vals fun u hu => let ⟨a, e, _⟩ := e3 u hu; ⟨a, e⟩, by rw [List.length_map, hpo.length_eq], dps_of e3, by rw [e1]; exact hpo.map _, ?_⟩
  rw [List.pairwise_map]
  refine List.pairwise_iff_getElem.mpr fun i j hi hj hij => ?_
  have hsz : us.length = (arrOf st').size := by rw [hout, List.length_map, Array.length_toList]
  have hpz : (arrOf st').size = (pairsOf its).size := h1.size_eq
  have kk : ∀ m (hm : m < us.length), KK (G.tupKindC s.heap noS) (arrOf st') m = kT (TS.intsOf s.heap us[m]) := fun m hm => by
    have hm2 : m < (arrOf st').size := by omega
    have em : (arrOf st')[m]? = some (arrOf st')[m] := Array.getElem?_eq_getElem hm2
    have hmem : (arrOf st')[m] ∈ (arrOf st').toList := Array.mem_toList_iff.mpr (Array.getElem_mem hm2)
    obtain ⟨f1, f2⟩ := hself _ hmem
    have f3 : us[m] = (arrOf st')[m].2 := by
      simp only [hout, List.getElem_map, Array.getElem_toList]
    unfold KK
    rw [em]
    obtain ⟨b, _, ht, _⟩ := e2 _ f2
    show (G.tupKeyC s.heap noS (arrOf st')[m].1).getD [] = _
    rw [key_of ht, f3, ← f1]; rfl
  have := h2 i j (Nat.le_of_lt hij) (by omega)
  rw [kk i hi, kk j hj] at this
  exact this
def rSortD (K : PySem.W.Frag) (P : Program) (w : World) : List V → Hp → VK → Prop := fun vs H Q => ∃ (d : Addr) (kvs : List (List Int × V)), vs = [V.ref d] ∧ DN K P w H d kvs ∧ (∀ kv ∈ kvs, kv.1 ≠ []) ∧
  ∀ (ys : List V) (mss : List (List Int)) (p : Addr), DpAll K H ys (mss.map dT) → mss.Perm (kvs.map (·.1)) → mss.Pairwise (fun a b => ltT b a = false) → H p = none → Q (.ref p) (upd H p (.lst ys))
theorem rx_keys {L : KX} {xs : List (List Int × Addr × Value)} (r : RX L xs) : L.map (fun x => (x.1, x.2.1)) = xs.map (fun x => (x.1, x.2.1)) := by
  unfold RX at r
  induction r with
  | nil => rfl
  | @cons p q ps qs h t ih => rw [List.map_cons, List.map_cons, ih, h.1, h.2.1]
theorem dpk {K : PySem.W.Frag} {H : Hp} : ∀ {L : KX}, (∀ x ∈ L, SqT K H x.2.1 (x.1.map V.int)) → DpAll K H (L.map fun x => V.ref x.2.1) ((L.map (·.1)).map dT)
  | [], _ => .nil
  | x :: L, h => .cons (dp_tup (h x (List.mem_cons_self ..))) (dpk fun y hy => h y (List.mem_cons_of_mem _ hy))
theorem vals_refs {L : KX} : Vals (L.map fun x => V.ref x.2.1) (L.map fun x => Value.ref x.2.1) := by
  induction L with
  | nil => exact .nil
  | cons x L ih => exact .cons rfl ih
theorem cr_sortD {K : PySem.W.Frag} {P : Program} {w : World} (hK : X.K = K) (hP : X.prog = P) (hw : X.w = w) (hcalm : X.calm = true) : CallR X (.builtin "sorted") (rSortD K P w) := by
  subst hK hP hw
  intro pins s σ H vs us Q I r h
  obtain ⟨d, kvs, rfl, g, hne, q⟩ := h
  rw [Vals.ref1 r]
  obtain ⟨lo, L, xs, _, hS, ekv, rel, hz, dd⟩ := g.at I
  obtain ⟨o, es, ep, ho, hex, hdat, hes, _, _⟩ := dd
  have raw : s.heap.DictRaw d es ep := ⟨o, ho, hex, hdat⟩
  have hLx : L.map (fun x => x.2.1) = xs.map (fun x => x.2.1) := by
    have := congrArg (List.map fun p : List Int × Addr => p.2) (rx_keys rel)
    rw [List.map_map, List.map_map] at this
    exact this
  have hsz : es.size = L.length := by rw [← Array.length_toList, hes, List.length_map, rel.len]
  have keyAt : ∀ i (hi : i < es.size), some es[i].key = (L.map fun x => Value.ref x.2.1)[i]? := fun i hi => by
    have e1 : es.toList[i]? = some es[i] := by rw [Array.getElem?_toList, Array.getElem?_eq_getElem hi]
    rw [hes, List.getElem?_map] at e1
    have e2 : (L.map (fun x => x.2.1))[i]? = (xs.map (fun x => x.2.1))[i]? := by rw [hLx]
    rw [List.getElem?_map, List.getElem?_map] at e2
    rw [List.getElem?_map]
    cases hx : xs[i]? with
    | none => rw [hx] at e1; cases e1
    | some y =>
      rw [hx] at e1 e2
      have e3 : entryOfKey (tupleKind (intKind X.prog X.w)) y = es[i] := Option.some.inj e1
      cases hl : L[i]? with
      | none => rw [hl] at e2; cases e2
      | some x =>
        rw [hl] at e2
        have e4 : x.2.1 = y.2.1 := Option.some.inj e2
        rw [← e3]
        show some (Value.ref y.2.1) = some (Value.ref x.2.1)
        rw [e4]
  have h16 : es.size ≤ sizeLine := by rw [hsz]; exact hz
  refine Calls.call_function_entry PyProof.Rows.kind_sorted PyProof.Rows.plain_sorted PyProof.Rows.entry_sorted (PyProof.Rows.args_sorted1 _) ?_
  unfold Builtin.«sorted»
  refine wpAny_bind (m := checkCount "sorted" 1 1 _) (wpAny_pure ?_)
  refine wpAny_bind (PySem.W.kdu_collect (A := X.A.in1) (kdl_rawD (es := es) (ep := ep) lo) (I.ok.hd hcalm) raw h16 fun h' tk acc hk hacc => ?_)
  have eacc : acc.toList = L.map fun x => Value.ref x.2.1 := by
    refine List.ext_getElem? fun i => ?_
    by_cases hi : i < es.size
    · have hi2 : i < acc.size := by rw [hacc.1]; exact hi
      obtain ⟨_, e⟩ := hacc.2 i acc[i] (Array.getElem?_eq_getElem hi2)
      rw [Array.getElem?_toList, Array.getElem?_eq_getElem hi2, e]
      exact keyAt i hi
    · rw [List.getElem?_eq_none (by rw [Array.length_toList, hacc.1]; omega), List.getElem?_eq_none (by rw [List.length_map]; omega)]
  have I1 : Inv X pins σ H { s with heap := h', toks := tk } := I.kept hk
  rw [eacc]
  generalize hits : L.map (fun x => Value.ref x.2.1) = its
  have hil : its.length = L.length := by rw [← hits, List.length_map]
  obtain ⟨e1, e2⟩ := tups_raw I1 (nss := L.map (·.1)) (dpk hS) (its := its) (by rw [← hits]; exact vals_refs)
  refine wpAny_bind (wpAny_newList ?_ (by rw [hil]; exact hz))
  have hoL : (h'.push (seqObj "list" its.toArray 0)).get? h'.objs.size = some (seqObj "list" its.toArray 0) := Heap.get?_push_size _ rfl
  show wpAny _ _ _ _ _ { s with heap := h'.push (seqObj "list" its.toArray 0), toks := tk }
  have k0 : G.KeepsTups h' (h'.push (seqObj "list" its.toArray 0)) := G.KeepsTups.push _ _
  have k6 := k0.trans (G.keeps_sort6 (vs := its) hoL)
  have hkey : ∀ v, v ∈ its → ∃ l, G.tupKeyC h' noS v = some l := fun v hv => by
    obtain ⟨b, _, ht, _⟩ := e2 v hv
    exact ⟨_, key_of ht⟩
  refine wpAny_bind (wpAny_holding (wpAny_call_entry PyProof.Rows.slot_list_sort ⟨_, hoL, rfl⟩ PyProof.Rows.entry_list_sort
    (G.list_sort_treeG (κ := G.tupKindC h' noS) (kd := tuples' true) (s := { s with heap := h'.push (seqObj "list" its.toArray 0), toks := tk }) hoL (G.tupKeys hkey) (G.tupC_ltAt true k6) (fun h2 Q' hq => ?_) (by rw [hil]; exact hz) fun st' hp hs _ => ⟨_, rfl, ?_⟩)
    (PyProof.Rows.args_list_sort _)))
  · obtain ⟨fs, ht⟩ := tupsOf_ex (h := h') (us := its) fun u hu => by
      obtain ⟨b, _, ht, _⟩ := e2 u hu
      refine ⟨ht, ?_⟩
      have hm : TS.intsOf h' u ∈ L.map (·.1) := by rw [e1]; exact List.mem_map.mpr ⟨u, hu, rfl⟩
      obtain ⟨x, hx, ex⟩ := List.mem_map.mp hm
      rw [← ex]
      exact hne (x.1, x.2.2) (by rw [← ekv]; exact List.mem_map.mpr ⟨x, hx, rfl⟩)
    exact tup_kind (by rw [G.TupsOf.length ht]; omega) (G.TupsOf.keep k6 ht) hq
  · obtain ⟨us', ys, mss, f1, f2, f3, f4, f5, f6⟩ := sort_out I1 e1 e2 hp hs
    obtain ⟨e', he'⟩ := PyProof.Rows.sortedHeap_at (vs := its) (out := (arrOf st').map (·.2)) hoL
    have hlen : ys.length ≤ sizeLine := by rw [f3, hil]; exact hz
    have f5' : mss.Perm (kvs.map (·.1)) := by
      rw [← ekv]
      unfold kvX
      rw [List.map_map]
      exact f5
    refine wpAny_pure ⟨_, rfl, .ref h'.objs.size, upd H h'.objs.size (.lst ys), I1.laid (t' := tk) (fun b u e => ?_) (Nat.le_refl _) (show ObjOk X.prog X.w _ _ _ (.lst ys) from ⟨hlen, us', e', f2, by rw [← f1, Array.toArray_toList]; exact he'⟩), rfl, q ys mss _ f4 f5' f6 (I1.hok.fresh (Nat.le_refl _))⟩
    have hb : b < h'.objs.size := Heap.lt_size e
    rw [PyProof.Rows.sortedHeap_old (Nat.ne_of_lt hb) (by rw [size_push']; exact Nat.lt_succ_of_lt hb)]
    exact Heap.get?_push_of_some _ e
end
end MB

set_option maxHeartbeats 4000000
namespace MB
open PySem PySem.Spec PyProof.Rows L2
/-! ### sorted(t), t a tuple of tuples of ints -/
section
variable {prog : Program} {w : World} {A : Around} {E : Value → Shared → Prop} {s : Shared}
theorem collect_tup {l : Addr} {vs : List Value} {Q : List Value → Shared → Prop} (hl : IsTup s.heap l vs.toArray) (hsz : vs.length ≤ sizeLine)
    (h : Q vs { s with heap := (s.heap.push (seqObj "list" #[] 0)).update s.heap.objs.size (Obj.mapSeq (· ++ vs.toArray)) }) :
    wpAny (model prog w) A (collect (.ref l)) Q E s := by
  obtain ⟨o, ho, hc, n, hd⟩ := id hl
  unfold collect
  refine wpAny_bind (wpAny_runValue (codeAny_builtin F.entry_proto_collect ?_))
  show wpAny _ _ (do again (.builtin "list.__iadd__" ⟨[← newList [], .ref l], []⟩)) _ _ s
  refine wpAny_bind (wpAny_newList (wpAny_pure ⟨Code.quiet_builtin _ (by decide +kernel), codeAny_builtin F.entry_list_iadd ?_⟩))
  show wpAny _ _ (Builtin.List.listExtendWith (.ref s.heap.objs.size) (.ref l) (.ref s.heap.objs.size)) _ _ { s with heap := s.heap.push (seqObj "list" #[] 0) }
  unfold Builtin.List.listExtendWith
  have ho' : (s.heap.push (seqObj "list" #[] 0)).get? l = some o := Heap.get?_push_of_some _ ho
  refine wpAny_bind (wpAny_typeOf (T := "tuple") ⟨o, ho', hc⟩ ?_)
  have ht : (Value.type "tuple" == Value.type "tuple") = true := by rfl
  rw [if_pos (by rw [ht]; simp)]
  refine wpAny_bind (listItems_at ho' hd ?_)
  refine wpAny_bind (listItems_at (xs := #[]) (n := 0) (Heap.get?_push_size _ rfl) rfl ?_)
  rw [if_neg (by simp)]
  refine wpAny_bind (listUpdate_at (xs := #[]) (n := 0) (Heap.get?_push_size _ rfl) rfl ?_ (Nat.zero_le _) (by show (#[] ++ vs.toArray).size ≤ sizeLine + 1; simp only [Array.size_append, List.size_toArray, List.length_nil]; omega))
  refine wpAny_pure ?_
  show wpAny (model prog w) A (do
      let o ← load s.heap.objs.size
      match o.data with
      | .seq xs _ => pure xs.toList
      | _ => unsupported "internal:collect") Q E { s with heap := (s.heap.push (seqObj "list" #[] 0)).update s.heap.objs.size (Obj.mapSeq (· ++ vs.toArray)) }
  refine wpAny_bind (wpAny_load (get?_update_seq (Heap.get?_push_size _ rfl) _) ?_)
  show wpAny _ _ (pure ((#[] : Array Value) ++ vs.toArray).toList) Q E _
  rw [show ((#[] : Array Value) ++ vs.toArray).toList = vs by simp]
  exact wpAny_pure h
end
section
variable {X : Cx}
def rSortTP (K : PySem.W.Frag) : List V → Hp → VK → Prop := fun vs H Q => ∃ (a : Addr) (xs : List V) (nss : List (List Int)), vs = [V.ref a] ∧ SqT K H a xs ∧ DpAll K H xs (nss.map dT) ∧ (2 ≤ nss.length → ∀ ns ∈ nss, ns ≠ []) ∧
  ∀ (ys : List V) (mss : List (List Int)) (p : Addr), DpAll K H ys (mss.map dT) → mss.Perm nss → mss.Pairwise (fun a b => ltT b a = false) → H p = none → Q (.ref p) (upd H p (.lst ys))
theorem cr_sortTP : CallR X (.builtin "sorted") (rSortTP X.K) := by
  intro pins s σ H vs us Q I r h
  obtain ⟨a, xs, nss, rfl, hs, hA, hne, q⟩ := h
  obtain ⟨its, rv, hl, hz0⟩ := I.tuple hs
  rw [Vals.ref1 r]
  have hz : its.length ≤ sizeLine := by rw [← rv.length]; exact hz0
  refine Calls.call_function_entry PyProof.Rows.kind_sorted PyProof.Rows.plain_sorted PyProof.Rows.entry_sorted (PyProof.Rows.args_sorted1 _) ?_
  unfold Builtin.«sorted»
  refine wpAny_bind (m := checkCount "sorted" 1 1 _) (wpAny_pure ?_)
  refine wpAny_bind (collect_tup hl hz ?_)
  generalize hh' : (s.heap.push (seqObj "list" #[] 0)).update s.heap.objs.size (Obj.mapSeq (· ++ its.toArray)) = h'
  have hk : ∀ b o, s.heap.get? b = some o → h'.get? b = some o := fun b o e => by
    have hb : b < s.heap.objs.size := Heap.lt_size e
    rw [← hh', Heap.get?_update_ne _ _ _ _ (Nat.ne_of_lt hb)]
    exact Heap.get?_push_of_some _ e
  have I1 : Inv X pins σ H { s with heap := h', toks := s.toks } := I.kept hk
  obtain ⟨e1, e2⟩ := tups_raw I1 hA rv
  refine wpAny_bind (wpAny_newList ?_ hz)
  have hoL : (h'.push (seqObj "list" its.toArray 0)).get? h'.objs.size = some (seqObj "list" its.toArray 0) := Heap.get?_push_size _ rfl
  show wpAny _ _ _ _ _ { s with heap := h'.push (seqObj "list" its.toArray 0), toks := s.toks }
  have k0 : G.KeepsTups h' (h'.push (seqObj "list" its.toArray 0)) := G.KeepsTups.push _ _
  have k6 := k0.trans (G.keeps_sort6 (vs := its) hoL)
  have hkey : ∀ v, v ∈ its → ∃ l, G.tupKeyC h' noS v = some l := fun v hv => by
    obtain ⟨b, _, ht, _⟩ := e2 v hv
    exact ⟨_, key_of ht⟩
  have hlen0 : its.length = nss.length := by rw [e1, List.length_map]
  refine wpAny_bind (wpAny_holding (wpAny_call_entry PyProof.Rows.slot_list_sort ⟨_, hoL, rfl⟩ PyProof.Rows.entry_list_sort
    (G.list_sort_treeG (κ := G.tupKindC h' noS) (kd := tuples' true) (s := { s with heap := h'.push (seqObj "list" its.toArray 0), toks := s.toks }) hoL (G.tupKeys hkey) (G.tupC_ltAt true k6) (fun h2 Q' hq => ?_) hz fun st' hp hs _ => ⟨_, rfl, ?_⟩)
    (PyProof.Rows.args_list_sort _)))
  · obtain ⟨fs, ht⟩ := tupsOf_ex (h := h') (us := its) fun u hu => by
      obtain ⟨b, _, ht, _⟩ := e2 u hu
      refine ⟨ht, hne (by omega) _ ?_⟩
      rw [e1]; exact List.mem_map.mpr ⟨u, hu, rfl⟩
    exact tup_kind (by rw [G.TupsOf.length ht]; omega) (G.TupsOf.keep k6 ht) hq
  · obtain ⟨us', ys, mss, f1, f2, f3, f4, f5, f6⟩ := sort_out I1 e1 e2 hp hs
    obtain ⟨e', he'⟩ := PyProof.Rows.sortedHeap_at (vs := its) (out := (arrOf st').map (·.2)) hoL
    have hlen : ys.length ≤ sizeLine := by rw [f3]; exact hz
    refine wpAny_pure ⟨_, rfl, .ref h'.objs.size, upd H h'.objs.size (.lst ys), I1.laid (t' := s.toks) (fun b u e => ?_) (Nat.le_refl _) (show ObjOk X.prog X.w _ _ _ (.lst ys) from ⟨hlen, us', e', f2, by rw [← f1, Array.toArray_toList]; exact he'⟩), rfl, q ys mss _ f4 f5 f6 (I1.hok.fresh (Nat.le_refl _))⟩
    have hb : b < h'.objs.size := Heap.lt_size e
    rw [PyProof.Rows.sortedHeap_old (Nat.ne_of_lt hb) (by rw [size_push']; exact Nat.lt_succ_of_lt hb)]
    exact Heap.get?_push_of_some _ e
end
end MB

set_option maxHeartbeats 4000000
namespace MB
open PySem PySem.Spec PyProof.Rows L2
/-! ### sets of many different tuples -/
def Msk (m : Nat) : Prop := m = 7 ∨ m = 31 ∨ m = 127 ∨ m = 511 ∨ m = 2047 ∨ m = 8191
theorem Msk.pow {m : Nat} (h : Msk m) : ∃ e, m + 1 = 2 ^ e := by
  rcases h with e | e | e | e | e | e
  · exact ⟨3, by rw [e]⟩
  · exact ⟨5, by rw [e]⟩
  · exact ⟨7, by rw [e]⟩
  · exact ⟨9, by rw [e]⟩
  · exact ⟨11, by rw [e]⟩
  · exact ⟨13, by rw [e]⟩
theorem Msk.le {m : Nat} (h : Msk m) : m ≤ 8191 ∧ m % 2 = 1 := by rcases h with e | e | e | e | e | e <;> omega
/-- the recurrence without the mask -/
def fx : Nat → Nat
  | 0 => 0
  | n + 1 => fx n * 5 + 1
theorem fx_pow : ∀ n, 4 * fx n + 1 = 5 ^ n
  | 0 => rfl
  | n + 1 => by
    have := fx_pow n
    rw [Nat.pow_succ, ← this]
    show 4 * (fx n * 5 + 1) + 1 = _
    omega
theorem fx_add (n p : Nat) : fx (n + p) = 5 ^ p * fx n + fx p := by
  have h1 := fx_pow (n + p)
  have h2 := fx_pow n
  have h3 := fx_pow p
  rw [Nat.pow_add, ← h2] at h1
  have h4 : 4 * (5 ^ p * fx n + fx p) + 1 = (4 * fx n + 1) * 5 ^ p := by
    rw [Nat.mul_add, Nat.add_mul, Nat.one_mul, ← h3]
    have : 4 * ((4 * fx p + 1) * fx n) = 4 * fx n * (4 * fx p + 1) := by rw [Nat.mul_assoc, Nat.mul_comm (fx n)]
    omega
  omega
theorem five_pow : ∀ e, ∃ K, 5 ^ (2 ^ e) = 1 + 2 ^ (e + 1) * (2 * K) ∧ ∃ q, fx (2 ^ e) = 2 ^ e * (2 * q + 1)
  | 0 => ⟨1, rfl, 0, rfl⟩
  | e + 1 => by
    obtain ⟨K, h, q, hq⟩ := five_pow e
    have hp : 2 ^ (e + 1) = 2 ^ e + 2 ^ e := by rw [Nat.pow_succ]; omega
    have hx : fx (2 ^ (e + 1)) = 2 ^ (e + 1) * (2 * (q + (2 * q + 1) * (2 ^ e * K)) + 1) := by
      rw [hp, fx_add, h, hq, Nat.pow_succ]
      generalize 2 ^ e = M
      have e1 : (1 + M * 2 * (2 * K)) * (M * (2 * q + 1)) = M * (2 * q + 1) + 2 * (M * (2 * ((2 * q + 1) * (M * K)))) := by
        rw [Nat.add_mul, Nat.one_mul]
        congr 1
        simp only [Nat.mul_comm, Nat.mul_left_comm, Nat.mul_assoc]
      rw [e1]
      generalize (2 * q + 1) * (M * K) = Z
      have e2 : (M + M) * (2 * (q + Z) + 1) = M * (2 * q + 1) + M * (2 * q + 1) + 2 * (M * (2 * Z)) := by
        rw [Nat.add_mul]
        have : M * (2 * (q + Z) + 1) = M * (2 * q + 1) + M * (2 * Z) := by rw [← Nat.mul_add]; congr 1; omega
        omega
      rw [e2]; omega
    have h5 := fx_pow (2 ^ (e + 1))
    rw [hx] at h5
    refine ⟨2 * (q + (2 * q + 1) * (2 ^ e * K)) + 1, ?_, _, hx⟩
    rw [← h5, Nat.pow_succ 2 (e + 1)]
    generalize 2 ^ (e + 1) = M
    generalize 2 * (q + (2 * q + 1) * (2 ^ e * K)) + 1 = Z
    have : M * 2 * (2 * Z) = 4 * (M * Z) := by
      rw [Nat.mul_assoc, ← Nat.mul_assoc 2, Nat.mul_left_comm]
    omega
/-- a full period -/
theorem fx_full : ∀ e j, j < 2 ^ e → ∃ n, n < 2 ^ e ∧ fx n % 2 ^ e = j
  | 0, j, h => ⟨0, by decide, by have : j = 0 := by simpa using h
                                 rw [this]; rfl⟩
  | e + 1, j, h => by
    have hp : 2 ^ (e + 1) = 2 * 2 ^ e := by rw [Nat.pow_succ, Nat.mul_comm]
    have hM : 0 < 2 ^ e := Nat.pow_pos (by decide)
    obtain ⟨K, h5, q, hq⟩ := five_pow e
    obtain ⟨n, hn, en⟩ := fx_full e (j % 2 ^ e) (Nat.mod_lt _ hM)
    have hshift : fx (n + 2 ^ e) = fx n + 2 ^ e + 2 * 2 ^ e * (2 * K * fx n + q) := by
      rw [fx_add, h5, hq, hp]
      generalize 2 ^ e = M
      rw [Nat.add_mul, Nat.one_mul, Nat.mul_add (2 * M), Nat.mul_assoc (2 * M) (2 * K)]
      have : M * (2 * q + 1) = 2 * M * q + M := by rw [Nat.mul_add, Nat.mul_one, ← Nat.mul_assoc, Nat.mul_comm M 2]
      omega
    rw [hp] at h ⊢
    generalize 2 ^ e = M at *
    have hr := Nat.mod_lt (fx n) (show 0 < 2 * M by omega)
    have hmm : fx n % (2 * M) % M = j % M := by rw [Nat.mod_mul_left_mod]; exact en
    have hsh : fx (n + M) % (2 * M) = (fx n % (2 * M) + M) % (2 * M) := by
      rw [hshift, Nat.add_mul_mod_self_left, Nat.mod_add_mod]
    generalize hrr : fx n % (2 * M) = r at hr hmm hsh
    have low : ∀ x, x < 2 * M → x % M = if x < M then x else x - M := fun x hx => by
      by_cases c : x < M
      · rw [if_pos c, Nat.mod_eq_of_lt c]
      · rw [if_neg c, Nat.mod_eq_sub_mod (by omega), Nat.mod_eq_of_lt (by omega)]
    rw [low r hr, low j h] at hmm
    by_cases e1 : r = j
    · exact ⟨n, by omega, hrr.trans e1⟩
    · refine ⟨n + M, by omega, ?_⟩
      rw [hsh]
      by_cases c : r + M < 2 * M
      · rw [Nat.mod_eq_of_lt c]
        split at hmm <;> split at hmm <;> omega
      · rw [Nat.mod_eq_sub_mod (by omega), Nat.mod_eq_of_lt (by omega)]
        split at hmm <;> split at hmm <;> omega
theorem lcg_fx (m : Nat) : ∀ k, lcgN m k = fx k % (m + 1)
  | 0 => (Nat.zero_mod _).symm
  | k + 1 => by
    show (lcgN m k * 5 + 1) % (m + 1) = (fx k * 5 + 1) % (m + 1)
    rw [lcg_fx m k, Nat.add_mod, Nat.mod_mul_mod, ← Nat.add_mod]
theorem lcg_back {m : Nat} (h : Msk m) : ∀ k, lcgN m (m + 1 + k) = lcgN m k
  | 0 => by
    obtain ⟨e, he⟩ := h.pow
    obtain ⟨_, _, q, hq⟩ := five_pow e
    rw [lcg_fx, Nat.add_zero, he, hq, Nat.mul_mod_right]; rfl
  | k + 1 => by
    show (lcgN m (m + 1 + k) * 5 + 1) % (m + 1) = _
    rw [lcg_back h k]; rfl
theorem lcg_meet {m : Nat} (h : Msk m) {i j : Nat} (hi : i ≤ m) (hj : j ≤ m) : ∃ k, k ≤ m ∧ lcgI m i k = j := by
  obtain ⟨e, he⟩ := h.pow
  obtain ⟨a, ha, ea⟩ := fx_full e i (by omega)
  obtain ⟨b, hb, eb⟩ := fx_full e j (by omega)
  rw [← he] at ha hb ea eb
  rw [← lcg_fx] at ea eb
  rw [← ea]
  by_cases c : a ≤ b
  · exact ⟨b - a, by omega, by rw [lcgN_add, show a + (b - a) = b by omega, eb]⟩
  · exact ⟨b + (m + 1) - a, by omega, by rw [lcgN_add, show a + (b + (m + 1) - a) = m + 1 + b by omega, lcg_back h, eb]⟩
theorem run_meet {m : Nat} (hm : Msk m) (h : Int) {j : Nat} (hj : j ≤ m) : ∃ n, n ≤ m + 12 ∧ runI m (SetTable.bits h) n = j :=
  let ⟨k, hk, e⟩ := lcg_meet hm (runI_le m (SetTable.bits h) 12) hj
  ⟨12 + k, by omega, (runI_tail (bits_lt h) k).trans e⟩
theorem way_bd {m : Nat} {h : Int} {k : Nat} : way m h k ≤ m := by
  have h0 : (runAt m (SetTable.bits h % (m + 1)) (SetTable.bits h)).j + (runAt m (SetTable.bits h % (m + 1)) (SetTable.bits h)).more ≤ m := by
    have := runEnd_bd (m := m) (i := SetTable.bits h % (m + 1)) (Nat.le_of_lt_succ (Nat.mod_lt _ (Nat.succ_pos m)))
    show SetTable.bits h % (m + 1) + (SetTable.runEnd m (SetTable.bits h % (m + 1)) - SetTable.bits h % (m + 1)) ≤ m
    omega
  have := nth_in k _ h0
  show (nth m _ k).j ≤ m
  omega
/-- the shape of a table with n entries, nothing removed -/
structure TabN (t : SetTable) (n : Nat) : Prop where
  ris : Ris t.place.toList
  dm : t.dummies = #[]
  sz : t.place.size = n
  mok : Msk t.mask
  bd : ∀ x ∈ t.place.toList, x ≤ t.mask
theorem TabN.gap {t : SetTable} {n : Nat} (T : TabN t n) (hl : n ≤ t.mask) (h : Int) : ∃ K, K < 10 * SetTable.turns t.mask ∧ way t.mask h K ∉ t.place.toList ∧ ∀ k, k < K → way t.mask h k ∈ t.place.toList := by
  obtain ⟨j, hj, hn⟩ := st_missing t.place.toList (t.mask + 1) (by rw [Array.length_toList, T.sz]; omega)
  obtain ⟨r, hr, e⟩ := run_meet T.mok h (Nat.le_of_lt_succ hj)
  obtain ⟨k, hk, e2⟩ := run_nth t.mask (SetTable.bits h) r
  have ew : way t.mask h k = j := by
    show (nth t.mask _ k).j = j
    rw [e2]; exact e
  obtain ⟨K, h1, h2, h3⟩ := st_least (p := fun k => way t.mask h k ∉ t.place.toList) k (by rw [ew]; exact hn)
  refine ⟨K, by unfold SetTable.turns; omega, h2, fun k' hk' => Classical.byContradiction fun c => h3 k' hk' c⟩
theorem TabN.put {t : SetTable} {n j : Nat} (T : TabN t n) (hj : j ∉ t.place.toList) (hm : j ≤ t.mask) :
    SetTable.below t.place j ≤ n ∧ TabN (t.put j).1 (n + 1) ∧ (t.put j).1.fill = n + 1 := by
  obtain ⟨c1, _, _⟩ := below_cut T.ris j
  have hp := put_place t j
  have hsz : (t.put j).1.place.size = n + 1 := by
    rw [← Array.length_toList, hp, len_ins _ (by rw [Array.length_toList]; exact c1), Array.length_toList, T.sz]
  refine ⟨by rw [← T.sz]; exact c1, ⟨ris_insert T.ris fun e => hj (List.mem_of_getElem? (by rw [Array.getElem?_toList]; exact e)), put_dm T.dm j, hsz, T.mok, fun x hx => ?_⟩, ?_⟩
  · rw [hp] at hx
    rcases mem_ins.mp hx with z | z
    · rw [z]; exact hm
    · exact T.bd x z
  · show (t.put j).1.place.size + (t.put j).1.dummies.size = n + 1
    rw [hsz, put_dm T.dm j]; rfl
/-! ### laid anew -/
structure Sits (m n : Nat) (owner : Array (Option Nat)) : Prop where
  sz : owner.size = m + 1
  all : ∀ k, k < n → ∃ j, j ≤ m ∧ oAt owner j = some k
  few : ∃ ps : List Nat, ps.length = n ∧ ∀ j, j ≤ m → oAt owner j ≠ none → j ∈ ps
theorem Sits.next {m n : Nat} {owner : Array (Option Nat)} (hm : Msk m) (W : Sits m n owner) (hl : n ≤ m) (h : Int) :
    ∃ j, SetTable.layClean.free m owner (SetTable.turns m) (SetTable.bits h % (m + 1)) (SetTable.bits h) = some j ∧ Sits m (n + 1) (owner.setIfInBounds j (some n)) := by
  obtain ⟨ps, hps, hin⟩ := W.few
  obtain ⟨j0, hj0, hn0⟩ := st_missing ps (m + 1) (by omega)
  have f0 : oAt owner j0 = none := Classical.byContradiction fun c => hn0 (hin j0 (Nat.le_of_lt_succ hj0) c)
  obtain ⟨r, hr, e⟩ := run_meet hm h (Nat.le_of_lt_succ hj0)
  have hw : way m h (L2.off m (SetTable.bits h % (m + 1)) (SetTable.bits h) r) = j0 := by
    show (nth m (runAt m (SetTable.bits h % (m + 1)) (SetTable.bits h)) _).j = j0
    rw [nth_off, itL_run]; exact e
  obtain ⟨K, k1, k2, k3⟩ := st_least (p := fun k => oAt owner (way m h k) = none) _ (show oAt owner (way m h (L2.off m (SetTable.bits h % (m + 1)) (SetTable.bits h) r)) = none by rw [hw]; exact f0)
  have isn : ∀ {x : Option Nat}, x ≠ none → x.isNone = false := fun {x} hx => by cases x with
    | none => exact absurd rfl hx
    | some _ => rfl
  have hfree := free_spec m owner (SetTable.turns m) r _ _ K (by unfold SetTable.turns; omega) k1 (fun k hk => isn (k3 k hk)) (by show (oAt owner (way m h K)).isNone = true; rw [k2]; rfl)
  have hjm : way m h K ≤ m := way_bd
  generalize hjw : way m h K = j at k2 hjm
  have hjs : j < owner.size := by rw [W.sz]; omega
  have self := oAt_set_self (some n) hjs
  refine ⟨j, by rw [← hjw]; exact hfree, by rw [Array.size_setIfInBounds]; exact W.sz, fun k hk => ?_, j :: ps, by simp [hps], fun i hi e => ?_⟩
  · by_cases c : k < n
    · obtain ⟨i, hi, ei⟩ := W.all k c
      exact ⟨i, hi, by rw [oAt_set_ne _ (fun z => by rw [z, k2] at ei; cases ei)]; exact ei⟩
    · exact ⟨j, hjm, by rw [self, show k = n by omega]⟩
  · by_cases c : i = j
    · rw [c]; exact .head _
    · rw [oAt_set_ne _ c] at e
      exact .tail _ (hin i hi e)
theorem sits_fold {m : Nat} (hm : Msk m) : ∀ (hs : List Int) (n : Nat) (owner : Array (Option Nat)), Sits m n owner → n + hs.length ≤ m →
    ∃ o', hs.foldl (stepF m) (some (owner, n)) = some (o', n + hs.length) ∧ Sits m (n + hs.length) o'
  | [], n, owner, W, _ => ⟨owner, rfl, W⟩
  | h :: hs, n, owner, W, hl => by
    rw [List.length_cons] at hl ⊢
    obtain ⟨j, e, W2⟩ := W.next hm (by omega) h
    obtain ⟨o', f, W3⟩ := sits_fold hm hs (n + 1) _ W2 (by omega)
    have ea : n + 1 + hs.length = n + (hs.length + 1) := by omega
    rw [ea] at f W3
    exact ⟨o', by rw [List.foldl_cons, stepF_some e]; exact f, W3⟩
theorem anew_ok (t : SetTable) {hs : Array Int} {wanted M : Nat} (hw : SetTable.sizeAbove wanted - 1 = M) (hM : Msk M) (hn : hs.size ≤ M) :
    ∃ t' order, t.relaid hs wanted = some (t', order) ∧ order.toList.Perm (List.range hs.size) ∧ TabN t' hs.size ∧ t'.mask = M ∧ t'.led = t.led ∧ t'.plain = t.plain := by
  have W0 : Sits M 0 (Array.replicate (M + 1) none) := ⟨by simp, fun k hk => absurd hk (Nat.not_lt_zero _), [], rfl, fun j hj e => absurd (oAt_init hj) e⟩
  obtain ⟨owner, f, W⟩ := sits_fold hM hs.toList 0 _ W0 (by rw [Array.length_toList]; omega)
  rw [Nat.zero_add, Array.length_toList] at W
  have hr : t.relaid hs wanted = some (tabOf t M owner, ((liveOf M owner).map (·.2)).toArray) := by
    rw [relaid_eq, hw, layClean_eq, f]; rfl
  have ris := ris_live (fun j => owner.getD j none) (List.range (M + 1)) (by unfold Ris; first | exact List.pairwise_lt_range | exact List.pairwise_lt_range _)
  have r1 : Ris ((liveOf M owner).map (·.1)) := ris.1
  have r2 : ∀ x ∈ (liveOf M owner).map (·.1), x ∈ List.range (M + 1) := ris.2
  have inO : ∀ k, k < hs.size → k ∈ (liveOf M owner).map (·.2) := fun k hk => by
    obtain ⟨j, b1, b2⟩ := W.all k hk
    exact List.mem_map.mpr ⟨(j, k), (mem_live W.sz).mpr ⟨b1, b2⟩, rfl⟩
  have nd1 : ((liveOf M owner).map (·.1)).Nodup := List.Pairwise.imp (fun h => Nat.ne_of_lt h) r1
  have hlen : (liveOf M owner).length = hs.size := by
    obtain ⟨ps, p1, p2⟩ := W.few
    have a := nat_nodup_len ((liveOf M owner).map (·.1)) ps nd1 fun x hx => by
      obtain ⟨⟨y, k⟩, hq, rfl⟩ := List.mem_map.mp hx
      obtain ⟨b1, b2⟩ := (mem_live W.sz).mp hq
      exact p2 y b1 (by rw [b2]; exact fun z => nomatch z)
    have b := nat_nodup_len (List.range hs.size) ((liveOf M owner).map (·.2)) List.nodup_range fun k hk => inO k (List.mem_range.mp hk)
    rw [List.length_map, p1] at a
    rw [List.length_map, List.length_range] at b
    omega
  refine ⟨_, _, hr, perm_range hs.size _ (by simp [hlen]) fun k hk => inO k hk, ⟨r1, rfl, ?_, hM, fun x hx => Nat.le_of_lt_succ (List.mem_range.mp (r2 x hx))⟩, rfl, rfl, rfl⟩
  show ((liveOf M owner).map (·.1)).toArray.size = hs.size
  rw [List.size_toArray, List.length_map, hlen]
/-! ### the set's object: rows in the slots' order -/
section
variable {P : Program} {w : World} {A : Around} {E : Value → Shared → Prop} {s : Shared} {a : Addr} {L : List (Addr × List Int)} {es : Array (Int × Value)} {ep : Nat} {t : SetTable}
structure SetN (P : Program) (w : World) (h : Heap) (a : Addr) (L : List (Addr × List Int)) (es : Array (Int × Value)) (ep : Nat) (t : SetTable) : Prop where
  ob : ∃ o, h.get? a = some o ∧ o.ExactSet ∧ o.data = .set es ep t
  rows : es.toList = rowsOf P w L
  tab : TabN t L.length
  nd : (L.map (·.2)).Nodup
  tup : ∀ p ∈ L, IsT P w h p.2 p.1
  plain : t.plain = true
  led : w.params.followText "set-order" = true ∨ t.led = true
  room : L.length * 5 < t.mask * 3
theorem rows_len {L : List (Addr × List Int)} {es : Array (Int × Value)} (h : es.toList = rowsOf P w L) : es.size = L.length := by
  rw [← Array.length_toList, h]; simp [rowsOf]
theorem fits_of {n : Nat} (T : TabN t n) (h : n ≤ t.mask) : t.fits n = true := by
  unfold SetTable.fits SetTable.fill
  rw [T.dm, Bool.and_eq_true, beq_iff_eq, decide_eq_true_eq, T.sz]
  exact ⟨rfl, by show n + 0 ≤ t.mask; omega⟩
theorem SetN.fits (R : SetN P w s.heap a L es ep t) : t.fits es.size = true := by
  have := R.room
  rw [rows_len R.rows]
  exact fits_of R.tab (by omega)
theorem SetN.row (R : SetN P w s.heap a L es ep t) {i : Nat} {p : Addr × List Int} (h : L[i]? = some p) : es[i]? = some (thash P w p.2, Value.ref p.1) := by
  rw [← Array.getElem?_toList, R.rows, rowsOf, List.getElem?_map, h]; rfl
/-- what is searched isn't there: the first gap of its way is found -/
theorem gap_from (R : SetN P w s.heap a L es ep t) {x : Addr} {k : List Int} (hx : IsT P w s.heap k x) (hu : A.units < cLine) (hn : k ∉ L.map (·.2)) {K : Nat} (hKf : K < 10 * SetTable.turns t.mask)
    (hK : way t.mask (thash P w k) K ∉ t.place.toList) (hKb : ∀ c, c < K → way t.mask (thash P w k) c ∈ t.place.toList) {Q : SetFound → Shared → Prop} (hQ : Q (.free (way t.mask (thash P w k) K) false) s) :
    ∀ (f c : Nat) (stand : Option SetTable.Probe), stand.getD (t.probeStart (thash P w k)) = nth t.mask (runAt t.mask (SetTable.bits (thash P w k) % (t.mask + 1)) (SetTable.bits (thash P w k))) c → c ≤ K → K - c < f →
      wpAny (model P w) A (setSearchFrom a (.ref x) (thash P w k) true f stand) Q E s
  | 0, _, _, _, _, hf => absurd hf (Nat.not_lt_zero _)
  | f + 1, c, stand, hst, hc, hf => by
    obtain ⟨o, ho, hex, hd⟩ := R.ob
    have hgw : ¬ t.gaveWay = true := by unfold SetTable.gaveWay; rw [R.tab.mok.le.2]; decide
    rw [setSearchFrom_succ]
    refine wpAny_bind (wpAny_setState_of ho hd R.fits ?_)
    dsimp only
    refine wp_if_neg hgw ?_
    try refine wpAny_bind (wpAny_pure ?_)
    generalize hp0 : runAt t.mask (SetTable.bits (thash P w k) % (t.mask + 1)) (SetTable.bits (thash P w k)) = p0 at hst
    have hway : ∀ q, (nth t.mask p0 q).j = way t.mask (thash P w k) q := fun q => by rw [← hp0]
    have hdum : ∀ (n : Nat) (p : SetTable.Probe), p.dummy = none → (nth t.mask p n).dummy = none := fun n => by
      induction n with
      | zero => exact fun p h => h
      | succ n ih => exact fun p h => ih _ (by unfold adv; split <;> exact h)
    have e1 : ∀ q, (nth t.mask (nth t.mask p0 c) q).j = way t.mask (thash P w k) (c + q) := fun q => by rw [← nth_add, hway]
    have spec := go_spec t R.tab.ris R.tab.dm (fun i => (es[i]?.map (·.1)).getD 0) (thash P w k) (10 * SetTable.turns t.mask) (K - c) (nth t.mask p0 c) (hdum c p0 (by rw [← hp0]; rfl)) (by omega)
      (fun q hq => by rw [e1]; exact hKb _ (by omega)) (by rw [e1, show c + (K - c) = K by omega]; exact hK)
    rcases spec with ⟨q, i, hq, hi, hh, _, hpr⟩ | ⟨_, hpr⟩
    · -- an entry of the same hash: another tuple
      rw [show t.probe (fun i => (es[i]?.map (·.1)).getD 0) (thash P w k) (stand.getD (t.probeStart (thash P w k))) = some (.candidate (nth t.mask (nth t.mask p0 c) q).j i (nth t.mask (nth t.mask p0 c) (q + 1))) from (by rw [hst]; exact hpr)]
      dsimp only
      have hil : i < L.length := by
        have := (List.getElem?_eq_some_iff.mp hi).1
        rw [Array.length_toList, R.tab.sz] at this; exact this
      have hp := List.getElem?_eq_getElem hil
      have hmem := List.getElem_mem hil
      generalize L[i] = p at hp hmem
      have hne : p.2 ≠ k := fun e => hn (List.mem_map.mpr ⟨p, hmem, e⟩)
      have rest : wpAny (model P w) A (searchRest a (.ref x) (thash P w k) true f es t (nth t.mask (nth t.mask p0 c) q).j i (nth t.mask (nth t.mask p0 c) (q + 1))) Q E s := by
        unfold searchRest
        rw [R.row hp]
        dsimp only
        refine wpAny_bind (wpAny_holding (wpAny_eqBool_tuple hu (R.tup p hmem) hx ?_))
        refine wpAny_bind (wpAny_setState_of ho hd R.fits ?_)
        dsimp only
        refine wp_if_neg (by simp [hne]) ?_
        try refine wpAny_bind (wpAny_pure ?_)
        rw [sameMem]
        dsimp only
        have hsl := slot_live R.tab.ris hi
        simp only [if_true, hsl, R.row hp]
        refine wpAny_bind (wpAny_isSame_ref_self (wpAny_bind (wpAny_pure ?_)))
        simp only [if_true]
        refine wp_if_neg (by simp [hne]) ?_
        exact gap_from R hx hu hn hKf hK hKb hQ f (c + (q + 1)) _ (by rw [hp0]; exact (nth_add t.mask c p0 (q + 1)).symm) (by omega) (by omega)
      by_cases hl : t.led = true
      · refine wp_if_neg (by simp [hl]) ?_
        try refine wpAny_bind (wpAny_pure ?_)
        exact rest
      · refine wp_if_pos (by simp [hl]) ?_
        refine wpAny_bind (seen_tup hx (fun y hy => ?_) ?_)
        · obtain ⟨e, he, ee⟩ := List.mem_map.mp hy
          have he2 : e ∈ es.toList := by
            have he1 : e ∈ es ∧ e.1 = thash P w k := by simpa using he
            simpa using he1.1
          rw [R.rows] at he2
          obtain ⟨p2, hp2, e2⟩ := List.mem_map.mp he2
          exact ⟨p2.2, p2.1, by rw [← ee, ← e2], R.tup p2 hp2⟩
        · refine wp_if_neg (by decide) ?_
          try refine wpAny_bind (wpAny_pure ?_)
          exact rest
    · rw [show t.probe (fun i => (es[i]?.map (·.1)).getD 0) (thash P w k) (stand.getD (t.probeStart (thash P w k))) = some (.empty (way t.mask (thash P w k) K) none) from (by rw [hst, ← show c + (K - c) = K by omega, ← e1]; exact hpr)]
      exact wpAny_pure hQ
theorem anew_at {o : Obj} (ho : s.heap.get? a = some o) (hex : o.ExactSet) (hd : o.data = .set es ep t) (hrows : es.toList = rowsOf P w L) (T : TabN t L.length) (hfl : L.length ≤ t.mask)
    (nd : (L.map (·.2)).Nodup) (tup : ∀ p ∈ L, IsT P w s.heap p.2 p.1) (pl : t.plain = true) (ld : w.params.followText "set-order" = true ∨ t.led = true) {wanted M : Nat}
    (hw : SetTable.sizeAbove wanted - 1 = M) (hM : Msk M) (hw2 : SetTable.sizeAbove wanted ≤ 8192) (hn : L.length * 5 < M * 3) {Q : Unit → Shared → Prop}
    (hQ : ∀ h' L' es' ep' t', Heap.SameBut a s.heap h' → SetN P w h' a L' es' ep' t' → L'.Perm L → Q () { s with heap := h' }) : wpAny (model P w) A (setRelay a wanted) Q E s := by
  have hsl := rows_len hrows
  have hfits : t.fits es.size = true := by rw [hsl]; exact fits_of T hfl
  obtain ⟨t', order, e, hp, T2, em, el, epl⟩ := anew_ok t (hs := es.map (·.1)) (wanted := wanted) hw hM (by rw [Array.size_map, hsl]; omega)
  rw [Array.size_map, hsl] at hp T2
  obtain ⟨L2, r1, r2, _⟩ := order_rows L es order hrows hp
  have hs2 : (order.filterMap (es[·]?)).size = es.size := by rw [rows_len r1, r2.length_eq, hsl]
  have hL : L.length ≤ 8191 := by have := hM.le.1; omega
  rw [setRelay_eq]
  refine wpAny_bind (wpAny_setState_of ho hd hfits ?_)
  dsimp only
  refine wp_if_neg (by rw [sizeLine_eq]; omega) ?_
  try refine wpAny_bind (wpAny_pure ?_)
  rw [e]
  dsimp only
  refine wpAny_bind ?_
  refine wp_if_neg (by rw [hs2]; simp) ?_
  try refine wpAny_bind (wpAny_pure ?_)
  refine wpAny_pure ?_
  dsimp only
  refine wpAny_storeSet_of ho hd ?_ (by rw [hs2, hsl, sizeLine_eq]; omega)
  have sb : Heap.SameBut a s.heap (s.heap.update a (Obj.putSet (order.filterMap (es[·]?)) t')) := Heap.SameBut.update ..
  refine hQ _ L2 (order.filterMap (es[·]?)) (ep + 1) t' sb ⟨⟨_, store_at ho hd, ⟨hex.1, hex.2.1, hex.2.2⟩, rfl⟩, r1, by rw [r2.length_eq]; exact T2, (r2.map (·.2)).nodup_iff.mpr nd, fun p hpm => isT_same (tup p (r2.mem_iff.mp hpm)) ho hd sb, by rw [epl]; exact pl, by rw [el]; exact ld, by rw [r2.length_eq, em]; exact hn⟩ r2
theorem size_77 : SetTable.sizeAbove (SetTable.grown 77) = 512 := by decide +kernel
theorem size_307 : SetTable.sizeAbove (SetTable.grown 307) = 2048 := by decide +kernel
theorem size_1229 : SetTable.sizeAbove (SetTable.grown 1229) = 8192 := by decide +kernel
/-- what isn't there is added -/
theorem add_new (R : SetN P w s.heap a L es ep t) {x : Addr} {k : List Int} (hx : IsT P w s.heap k x) (hu : A.units < cLine) (hn : k ∉ L.map (·.2)) (hfew : L.length < 4000) {Q : Bool → Shared → Prop}
    (hQ : ∀ h' L' es' ep' t', Heap.SameBut a s.heap h' → SetN P w h' a L' es' ep' t' → L'.Perm ((x, k) :: L) → Q true { s with heap := h' }) :
    wpAny (model P w) A (setAddHashed a (.ref x) (thash P w k)) Q E s := by
  obtain ⟨o, ho, hex, hd⟩ := R.ob
  have hsl := rows_len R.rows
  have hroom := R.room
  obtain ⟨K, hKf, hK, hKb⟩ := R.tab.gap (by omega) (thash P w k)
  unfold setAddHashed
  refine wpAny_holding ?_
  rw [show (100000 : Nat) = 99999 + 1 from rfl, setAddHashedIn_succ]
  refine wpAny_bind (wpAny_setState_of ho hd R.fits ?_)
  dsimp only
  refine wp_if_neg (by simp [byScan, Value.scannable]) ?_
  try refine wpAny_bind (wpAny_pure ?_)
  unfold setSearch
  have hKb2 : K < 100000 := by
    have : 10 * SetTable.turns t.mask ≤ 90000 := by
      unfold SetTable.turns
      have := R.tab.mok.le.1
      omega
    omega
  refine wpAny_bind (gap_from R hx hu hn hKf hK hKb ?_ 100000 0 none rfl (Nat.zero_le _) (by omega))
  dsimp only
  refine wpAny_bind (wpAny_setState_of ho hd R.fits ?_)
  dsimp only
  obtain ⟨q1, q2, q3⟩ := R.tab.put hK way_bd
  have hpl : (t.put (way t.mask (thash P w k) K)).1.plain = true := R.plain
  have hmk : (t.put (way t.mask (thash P w k) K)).1.mask = t.mask := rfl
  have hld : (t.put (way t.mask (thash P w k) K)).1.led = t.led := rfl
  have hp2 : (t.put (way t.mask (thash P w k) K)).2 = SetTable.below t.place (way t.mask (thash P w k) K) := rfl
  generalize t.put (way t.mask (thash P w k) K) = pt at q2 q3 hpl hmk hld hp2 ⊢
  obtain ⟨t1, p⟩ := pt
  dsimp only at q2 q3 hpl hmk hld hp2 ⊢
  first
    | (refine wpAny_bind ?_; refine wp_if_pos hpl ?_; refine hashBy_tup hx ?_)
    | refine wp_if_pos hpl (wpAny_bind (hashBy_tup hx ?_))
  simp only [if_true]
  rw [← hp2] at q1
  have hin : (SetTable.insertAt es p (thash P w k, Value.ref x)).toList = rowsOf P w (L.take p ++ (x, k) :: L.drop p) := by rw [SetTable.toList_insertAt, rows_put, R.rows]
  have pm := put_perm L p (x, k)
  generalize SetTable.insertAt es p (thash P w k, Value.ref x) = es1 at hin ⊢
  generalize L.take p ++ (x, k) :: L.drop p = L1 at pm hin
  have hlen : L1.length = L.length + 1 := pm.length_eq
  have hes := rows_len hin
  refine wpAny_bind (wpAny_storeSet_of ho hd ?_ (by rw [hes, sizeLine_eq]; omega))
  have sb : Heap.SameBut a s.heap (s.heap.update a (Obj.putSet es1 t1)) := Heap.SameBut.update ..
  have ho1 := store_at (es' := es1) (t' := t1) ho hd
  generalize s.heap.update a (Obj.putSet es1 t1) = h1 at sb ho1 ⊢
  have tup1 : ∀ p ∈ L1, IsT P w h1 p.2 p.1 := fun p hp => by
    rcases List.mem_cons.mp (pm.mem_iff.mp hp) with e | hp
    · rw [e]; exact isT_same hx ho hd sb
    · exact isT_same (R.tup p hp) ho hd sb
  have nd1 : (L1.map (·.2)).Nodup := (pm.map (·.2)).nodup_iff.mpr (List.nodup_cons.mpr ⟨hn, R.nd⟩)
  have ld1 : w.params.followText "set-order" = true ∨ t1.led = true := by rw [hld]; exact R.led
  rw [← hlen] at q2
  by_cases hf : t1.tooFull = true
  · first
      | (refine wpAny_bind ?_; refine wp_if_pos (by simp [hf]) ?_)
      | (refine wp_if_pos (by simp [hf]) ?_; refine wpAny_bind ?_)
    have hfull : (L.length + 1) * 5 ≥ t.mask * 3 := by
      have h := hf
      unfold SetTable.tooFull at h
      rw [decide_eq_true_eq, q3, hmk] at h
      exact h
    rw [hsl]
    have go : ∀ M, SetTable.sizeAbove (SetTable.grown (L.length + 1)) - 1 = M → Msk M → SetTable.sizeAbove (SetTable.grown (L.length + 1)) ≤ 8192 → (L.length + 1) * 5 < M * 3 → L.length + 1 ≤ t.mask →
        wpAny (model P w) A (setRelay a (SetTable.grown (L.length + 1))) (fun _ s' => wpAny (model P w) A (pure true) Q E s') E { s with heap := h1 } := fun M g1 g2 g3 g4 g5 =>
      anew_at (s := { s with heap := h1 }) ho1 ⟨hex.1, hex.2.1, hex.2.2⟩ rfl hin q2 (by rw [hlen, hmk]; exact g5) nd1 tup1 hpl ld1 g1 g2 g3 (by rw [hlen]; exact g4) fun h2 L2 es2 ep2 t2 sb2 R2 pm2 => wpAny_pure (hQ h2 L2 es2 ep2 t2 (sb.trans sb2) R2 (pm2.trans pm))
    rcases R.tab.mok with e | e | e | e | e | e
    · have e2 : L.length = 4 := by rw [e] at hfull hroom; omega
      exact go 31 (by rw [e2, size_20]) (.inr (.inl rfl)) (by rw [e2, size_20]; decide) (by omega) (by omega)
    · have e2 : L.length = 18 := by rw [e] at hfull hroom; omega
      exact go 127 (by rw [e2, size_76]) (.inr (.inr (.inl rfl))) (by rw [e2, size_76]; decide) (by omega) (by omega)
    · have e2 : L.length = 76 := by rw [e] at hfull hroom; omega
      exact go 511 (by rw [e2, size_77]) (.inr (.inr (.inr (.inl rfl)))) (by rw [e2, size_77]; decide) (by omega) (by omega)
    · have e2 : L.length = 306 := by rw [e] at hfull hroom; omega
      exact go 2047 (by rw [e2, size_307]) (.inr (.inr (.inr (.inr (.inl rfl))))) (by rw [e2, size_307]; decide) (by omega) (by omega)
    · have e2 : L.length = 1228 := by rw [e] at hfull hroom; omega
      exact go 8191 (by rw [e2, size_1229]) (.inr (.inr (.inr (.inr (.inr rfl))))) (by rw [e2, size_1229]; decide) (by omega) (by omega)
    · rw [e] at hfull; omega
  · first
      | refine wp_if_neg (by simp [hf]) ?_
      | (refine wpAny_bind ?_; refine wp_if_neg (by simp [hf]) ?_; refine wpAny_pure ?_)
    refine wpAny_pure (hQ h1 L1 es1 (ep + 1) t1 sb ⟨⟨_, ho1, ⟨hex.1, hex.2.1, hex.2.2⟩, rfl⟩, hin, q2, nd1, tup1, hpl, ld1, ?_⟩ pm)
    have h := hf
    unfold SetTable.tooFull at h
    rw [decide_eq_true_eq, q3, hmk] at h
    rw [hlen, hmk]
    omega
theorem set_empty {h : Heap} (ho : h.get? a = some { cls := .type "set", dict := none, data := .set #[] 0 (.fresh 0 0 (!w.params.followText "set-order")) }) : SetN P w h a [] #[] 0 (.fresh 0 0 (!w.params.followText "set-order")) where
  ob := ⟨_, ho, ⟨rfl, rfl, rfl⟩, rfl⟩
  rows := rfl
  tab := ⟨List.Pairwise.nil, rfl, rfl, .inl rfl, fun x hx => (by cases hx)⟩
  nd := List.nodup_nil
  tup := fun p hp => nomatch hp
  plain := rfl
  led := by
    show _ ∨ (!w.params.followText "set-order") = true
    cases w.params.followText "set-order"
    · exact .inr rfl
    · exact .inl rfl
  room := by show 0 * 5 < 7 * 3; decide
theorem SetN.keep {h h' : Heap} {a : Addr} {L : List (Addr × List Int)} {es : Array (Int × Value)} {ep : Nat} {t : SetTable} (R : SetN P w h a L es ep t) (ha : ∀ o, h.get? a = some o → h'.get? a = some o) (ht : ∀ p ∈ L, IsT P w h' p.2 p.1) : SetN P w h' a L es ep t :=
  ⟨let ⟨o, e, r⟩ := R.ob; ⟨o, ha o e, r⟩, R.rows, R.tab, R.nd, ht, R.plain, R.led, R.room⟩
/-- set.update over items that all differ -/
theorem update_new {I : Addr} {fp wr : List Addr} {G : Array GenState → Array GenState → Prop} {n : Nat} {Pv : Nat → Value → Prop} {St : Nat → Shared → Prop} {R : Result → Shared → Prop}
    (W : WalksS P w A.in1 I fp wr G n Pv St) (S : Addr) (hSf : S ∉ fp) (ks : List (Addr × List Int)) (hn : n = ks.length) (hnd : (ks.map (·.2)).Nodup) (hfew : ks.length ≤ 4000) (hval : ∀ i v, Pv i v → ∃ p, ks[i]? = some p ∧ v = .ref p.1)
    (h0 : Heap) (hk : ∀ p ∈ ks, IsT P w h0 p.2 p.1) (hS0 : h0.get? S = none) (hw0 : ∀ b ∈ wr, h0.get? b = none) (hu : A.in1.units < cLine) :
    ∀ (k i : Nat) (s : Shared), n - i = k → i ≤ n → St i s → (∀ b o, h0.get? b = some o → s.heap.get? b = some o) → (∃ L es ep t, SetN P w s.heap S L es ep t ∧ L.Perm (ks.take i)) →
      (∀ s' L es ep t, Moved (S :: wr) G s s' → SetN P w s'.heap S L es ep t → L.Perm ks → (∀ b o, h0.get? b = some o → s'.heap.get? b = some o) → R (.ok (.ret .none)) s') →
      codeAny (model P w) A (.builtin "set.update.loop" ⟨[.ref S, .ref I], []⟩) R s := by
  have hSw : S ∉ wr := fun h => hSf (W.sub _ h)
  have hsub : ∀ b ∈ wr, b ∈ S :: wr := fun b hb => List.mem_cons_of_mem _ hb
  have stays : ∀ {s s' : Shared}, Moved wr G s s' → (∀ b o, h0.get? b = some o → s.heap.get? b = some o) → ∀ b o, h0.get? b = some o → s'.heap.get? b = some o := fun hm hkp b o e =>
    hm.heap b o (fun hb => by rw [hw0 b hb] at e; cases e) (hkp b o e)
  intro k
  induction k with
  | zero =>
    intro i s hk' hi hst hkp ⟨L, es, ep, t, hS, g⟩ hR
    obtain rfl : i = n := by omega
    rw [hn, List.take_length] at g
    refine codeAny_builtin F.entry_set_update_loop ?_
    rw [Around.under_plainId F.plain_set_update_loop _]
    show wpAny _ A.in1 (pyNext (.ref I) >>= _) _ _ s
    refine wpAny_bind (W.done s _ _ hst fun s' hm => ?_)
    show wpAny _ A.in1 (ret Value.none) _ _ s'
    have hkp' := stays hm hkp
    exact wpAny_pure (hR s' L es ep t (hm.mono hsub) (hS.keep (fun o e => hm.heap S o hSw e) fun p hp => isT_keep (hk p (g.mem_iff.mp hp)) hkp') g hkp')
  | succ k ih =>
    intro i s hk' hi hst hkp ⟨L, es, ep, t, hS, g⟩ hR
    have hlt : i < n := by omega
    refine codeAny_builtin F.entry_set_update_loop ?_
    rw [Around.under_plainId F.plain_set_update_loop _]
    show wpAny _ A.in1 (pyNext (.ref I) >>= _) _ _ s
    refine wpAny_bind (W.item i s _ _ hlt hst fun v s' hP hst' hm => ?_)
    obtain ⟨p, hp, rfl⟩ := hval i v hP
    have hkp' := stays hm hkp
    have sub : ∀ q ∈ L, q ∈ ks := fun q hq => List.mem_of_mem_take (g.mem_iff.mp hq)
    have hS' : SetN P w s'.heap S L es ep t := hS.keep (fun o e => hm.heap S o hSw e) fun q hq => isT_keep (hk q (sub q hq)) hkp'
    have hx : IsT P w s'.heap p.2 p.1 := isT_keep (hk p (List.mem_of_getElem? hp)) hkp'
    have hilt : i < ks.length := by omega
    have htk : ks.take (i + 1) = ks.take i ++ [p] := by rw [List.take_add_one, hp]; rfl
    have hnew : p.2 ∉ L.map (·.2) := fun hm2 => by
      have h1 : ((ks.take (i + 1)).map (·.2)).Nodup := List.Nodup.sublist ((List.take_sublist _ _).map _) hnd
      rw [htk, List.map_append, List.nodup_append] at h1
      exact h1.2.2 _ ((g.map (·.2)).mem_iff.mp hm2) _ (List.mem_singleton.mpr rfl) rfl
    have hLl : L.length = i := by rw [g.length_eq, List.length_take]; omega
    show wpAny _ A.in1 (holding [Value.ref p.1] (setAdd S (.ref p.1)) >>= _) _ _ s'
    refine wpAny_bind (wpAny_holding ?_)
    unfold setAdd
    refine wpAny_holding ?_
    refine wpAny_bind (wpAny_pyHash_tuple hu hx ?_)
    refine add_new (s := { s' with toks := s'.toks + (p.2.length + 1) }) hS' hx hu hnew (by omega) fun h' L' es' ep' t' hsb hS2 pm => ?_
    have g' : L'.Perm (ks.take (i + 1)) := by
      rw [htk]
      exact pm.trans ((List.Perm.cons _ g).trans (List.perm_append_singleton _ _).symm)
    have hkp2 : ∀ b o, h0.get? b = some o → h'.get? b = some o := fun b o e => (hsb.2 b (fun z => by rw [z, hS0] at e; cases e)).trans (hkp' b o e)
    refine wpAny_pure ⟨plainId_quiet F.plain_set_update_loop _, ih (i + 1) _ (by omega) hlt (W.frame _ s' _ _ hst' (Nat.le_add_right _ _) fun b hb o e => ?_) hkp2 ⟨L', es', ep', t', hS2, g'⟩ fun s'' L2 es2 ep2 t2 hm'' hS'' g'' hkp'' => ?_⟩
    · rw [hsb.2 b (fun h : b = S => hSf (by rw [← h]; exact hb))]; exact e
    · refine hR s'' L2 es2 ep2 t2 (Moved.trans W.gtrans ((hm.mono hsub).then_heap (Nat.le_add_right _ _) fun b o hb e => ?_) hm'') hS'' g'' hkp''
      rw [hsb.2 b (fun h : b = S => hb (by rw [h]; exact .head _))]; exact e
end
section
variable {P : Program} {w : World} {A : Around} {E : Value → Shared → Prop} {s : Shared}
/-- the object of a set just made -/
abbrev newSetObj (w : World) : Obj := { cls := .type "set", dict := none, data := .set #[] 0 (.fresh 0 0 (!w.params.followText "set-order")) }
theorem call_setN {l : Addr} {items : Array Value} (ks : List (Addr × List Int)) {Q : Value → Shared → Prop} (hh : A.handled = none) (hl : s.heap.IsList l items) (hit : items.toList = ks.map fun p => Value.ref p.1)
    (hk : ∀ p ∈ ks, IsT P w s.heap p.2 p.1) (hnd : (ks.map (·.2)).Nodup) (hfew : ks.length ≤ 4000) (hu : A.units + 3 < cLine)
    (h : ∀ (h' : Heap) (tk : Nat) L es ep t, SetN P w h' s.heap.objs.size L es ep t → L.Perm ks → (∀ b o, s.heap.get? b = some o → h'.get? b = some o) → Q (.ref s.heap.objs.size) { s with heap := h', toks := tk }) :
    wpAny (model P w) A (call (.type "set") [.ref l]) Q E s := by
  have hisz : items.size = ks.length := by rw [← Array.length_toList, hit, List.length_map]
  obtain ⟨c, tl, hmro⟩ := F.called_set.mro
  have hmade := F.called_set.made
  have hsub := F.called_set.sub
  refine wpAny_call (codeAny_of_tree ?_)
  show wpAny _ _ (callAny (.type "set") _) _ _ _
  refine wpAny_pure ⟨Code.quiet_builtin _ (by decide +kernel), codeAny_builtin F.entry_type_call ?_⟩
  rw [Around.under_plain (weight_type_call_type "set" [.ref l] []) rfl]
  have h1 := F.called_set.notType
  have h2 := F.called_set.canCreate
  have hct := F.typeCall_set_1 (.ref l)
  repeat (any_goals (first | assumption | wp_step))
  refine codeAny_mono (code_set_led1 (.ref l) (E := E) (Q₁ := fun obj s₁ => obj = .ref s.heap.objs.size ∧ s₁ = { s with heap := s.heap.push (newSetObj w) }) ⟨rfl, rfl⟩) fun r s₁ hr => ?_
  rcases r with e | fl
  · exact hr
  rcases fl with _ | _ | _ | obj
  · exact hr.elim
  · exact hr.elim
  · exact hr.elim
  obtain ⟨rfl, rfl⟩ := hr
  have hS : (s.heap.push (newSetObj w)).get? s.heap.objs.size = some (newSetObj w) := Heap.get?_push_size _ rfl
  have hT : Shared.TypeIs { s with heap := s.heap.push (newSetObj w) } (.ref s.heap.objs.size) "set" := ⟨_, hS, rfl⟩
  have hli := F.called_set.init.lookup
  have hbi := F.called_set.init.bind (.ref s.heap.objs.size)
  repeat (any_goals (first | assumption | wp_step))
  refine codeAny_mono (codeAny_call_builtin (R := wants (fun r s₂ => r = .none ∧ ∃ h' tk L es ep t, s₂ = { s with heap := h', toks := tk } ∧ SetN P w h' s.heap.objs.size L es ep t ∧ L.Perm ks ∧ (∀ b o, s.heap.get? b = some o → h'.get? b = some o)) E)
    F.called_set.init.plain F.entry_set_init (check_set_init_1 hT ?_)) fun r₂ s₂ hr₂ => ?_
  rotate_left
  · rcases r₂ with e | fl₂
    · exact hr₂
    rcases fl₂ with _ | _ | _ | r
    · exact hr₂.elim
    · exact hr₂.elim
    · exact hr₂.elim
    obtain ⟨rfl, h', tk, L, es, ep, t, rfl, hS', g', hk'⟩ := hr₂
    repeat (any_goals (first | assumption | wp_step))
    exact h _ _ _ _ _ _ hS' g' hk'
  obtain ⟨⟨ocls, odict, odata, oslots⟩, hol, hcl, nl, hdl⟩ := hl
  simp only at hcl hdl
  subst hcl; subst hdl
  have hol' : (s.heap.push (newSetObj w)).get? l = some { cls := .type "list", dict := odict, data := .seq items nl, slots := oslots } := Heap.get?_push_of_some _ hol
  have hsls := F.sub_list_set
  have hslf := F.sub_list_frozenset
  have hne : (Value.type "list" == Value.type "dict") = false := by decide
  have hl1 : (s.heap.push (newSetObj w)).IsList l items := ⟨_, hol', rfl, nl, rfl⟩
  unfold Builtin.«set.__init__» noKeywords Builtin.Frozenset.updateFrom
  generalize hPI : pyIter = PI
  wp_walk
  subst hPI
  refine wpAny_pyIter_list hl1 ?_
  refine wpAny_bind (wpAny_runValue ?_)
  have hlS : l < s.heap.objs.size := Heap.lt_size hol
  have hh3 : A.in1.in1.in1.handled = none := by simp [hh]
  have hz1 : (s.heap.push (newSetObj w)).objs.size = s.heap.objs.size + 1 := Heap.size_push ..
  have hneI : l ≠ (s.heap.push (newSetObj w)).objs.size := by rw [hz1]; exact Nat.ne_of_lt (Nat.lt_succ_of_lt hlS)
  have hSf : s.heap.objs.size ∉ [(s.heap.push (newSetObj w)).objs.size, l] := by
    rw [hz1]
    simp only [List.mem_cons, List.not_mem_nil, or_false, not_or]
    exact ⟨Nat.ne_of_lt (Nat.lt_succ_self _), Nat.ne_of_gt hlS⟩
  have hval : ∀ (i : Nat) (v : Value), items[i]? = some v → ∃ p, ks[i]? = some p ∧ v = .ref p.1 := fun i v hv => by
    have q : items.toList[i]? = some v := by rw [Array.getElem?_toList]; exact hv
    rw [hit, List.getElem?_map] at q
    obtain ⟨p, hp, e⟩ := Option.map_eq_some_iff.mp q
    exact ⟨p, hp, e.symm⟩
  refine update_new ((Walks.list hh3 _ l hneI items).toS) s.heap.objs.size hSf ks hisz hnd hfew hval s.heap hk (Heap.get?_none_of_le (Nat.le_refl _)) (fun b hb => Heap.get?_none_of_le (by
      rw [List.mem_singleton.mp hb, hz1]; exact Nat.le_succ _)) hu (items.size - 0) 0 _ (by omega) (Nat.zero_le _)
    ⟨⟨_, Heap.get?_push_size _ rfl, rfl, rfl⟩, (hl1.push _)⟩ (fun b o e => Heap.get?_push_of_some _ (Heap.get?_push_of_some _ e)) ?_ ?_
  · exact ⟨[], #[], 0, _, set_empty (Heap.get?_push_of_some _ hS), List.Perm.refl _⟩
  · intro s' L es ep t hm hS' g' hkp
    obtain ⟨h', g2, d', tk', os'⟩ := s'
    obtain rfl : g2 = s.gens := hm.gens
    obtain rfl : d' = s.drawn := hm.drawn
    obtain rfl : os' = s.os := hm.os
    show wpAny _ _ _ _ _ _
    refine wpAny_pure ?_
    show wpAny _ _ (ret Value.none) _ _ _
    exact wpAny_pure ⟨rfl, h', tk', L, es, ep, t, rfl, hS', g', hkp⟩
end
/-- the set at a, without the tuples themselves -/
def SetN0 (P : Program) (w : World) (h : Heap) (a : Addr) (L : List (Addr × List Int)) : Prop :=
  ∃ (es : Array (Int × Value)) (ep : Nat) (t : SetTable), (∃ o, h.get? a = some o ∧ o.ExactSet ∧ o.data = .set es ep t) ∧ es.toList = rowsOf P w L ∧ TabN t L.length ∧ (L.map (·.2)).Nodup ∧ t.plain = true ∧ (w.params.followText "set-order" = true ∨ t.led = true) ∧ L.length * 5 < t.mask * 3
def SetNO (P : Program) (w : World) (a : Addr) (L : List (Addr × List Int)) : HO := .ext fun h => SetN0 P w h a L
theorem SetN.bare {P : Program} {w : World} {h : Heap} {a : Addr} {L : List (Addr × List Int)} {es : Array (Int × Value)} {ep : Nat} {t : SetTable} (R : SetN P w h a L es ep t) : SetN0 P w h a L := ⟨es, ep, t, R.ob, R.rows, R.tab, R.nd, R.plain, R.led, R.room⟩
theorem SetN0.full {P : Program} {w : World} {h : Heap} {a : Addr} {L : List (Addr × List Int)} (R : SetN0 P w h a L) (ht : ∀ p ∈ L, IsT P w h p.2 p.1) : ∃ es ep t, SetN P w h a L es ep t :=
  let ⟨es, ep, t, r1, r2, r3, r4, r5, r6, r7⟩ := R
  ⟨es, ep, t, r1, r2, r3, r4, ht, r5, r6, r7⟩
theorem setNO_ok {P : Program} {w : World} {H : Hp} {h : Heap} {a : Addr} {L : List (Addr × List Int)} (R : SetN0 P w h a L) : ObjOk P w H h a (SetNO P w a L) := by
  refine ⟨R, ?_, fun h1 h2 g st => ?_⟩
  · obtain ⟨_, _, _, ⟨o, ho, _⟩, _⟩ := R
    exact ⟨o, ho⟩
  · obtain ⟨es, ep, t, ⟨o, ho, r⟩, r2⟩ := g
    exact ⟨es, ep, t, ⟨o, st o ho, r⟩, r2⟩
section
variable {X : Cx}
/-- set(xs), xs a list of tuples of ints that all differ -/
def rSetN (K : PySem.W.Frag) (P : Program) (w : World) : List V → Hp → VK → Prop := fun xs H Q => ∃ (l : Addr) (ks : List (Addr × List Int)), xs = [V.ref l] ∧ SqL K H l (ks.map fun p => V.ref p.1) ∧ (∀ p ∈ ks, SqT K H p.1 (p.2.map V.int)) ∧ (ks.map (·.2)).Nodup ∧ ks.length ≤ 4000 ∧
  ∀ a L, H a = none → L.Perm ks → Q (.ref a) (upd H a (SetNO P w a L))
theorem cr_setN (hc : X.calm = true) (hu : X.A.units + 64 < cLine) : CallR X (.type "set") (rSetN X.K X.prog X.w) := by
  intro pins s σ H xs us Q I r h
  obtain ⟨l, ks, rfl, hl, hk, hnd, hf, q⟩ := h
  rw [Vals.ref1 r]
  obtain ⟨its, rv, pl, hz⟩ := I.list hl
  refine call_setN (P := X.prog) (w := X.w) ks (I.ok.hd hc) pl.isList (by simpa using refs_of_vals rv) (fun p hp => I.isT (hk p hp)) hnd hf (by omega) fun h' tk L es ep t R pm k => ?_
  exact ⟨.ref s.heap.objs.size, upd H s.heap.objs.size (SetNO X.prog X.w s.heap.objs.size L), I.laid (t' := tk) k (Nat.le_refl _) (setNO_ok R.bare), rfl, q _ L (I.hok.fresh (Nat.le_refl _)) pm⟩
def rLenN (P : Program) (w : World) : List V → Hp → VK → Prop := fun xs H Q => ∃ (a : Addr) (L : List (Addr × List Int)), xs = [V.ref a] ∧ H a = some (SetNO P w a L) ∧ Q (.int (L.length : Int)) H
theorem cr_lenN : CallR X (.builtin "len") (rLenN X.prog X.w) := by
  intro pins s σ H xs us Q I r h
  obtain ⟨a, L, rfl, ha, q⟩ := h
  rw [Vals.ref1 r]
  obtain ⟨es, ep, t, ⟨o, ho, hex, hd⟩, r2, r3, r4, r5, r6, r7⟩ := (I.hok a _ ha).1
  have hsz := rows_len r2
  have hm := r3.mok.le.1
  refine call_len_set ho hex hd (by rw [hsz]; exact fits_of r3 (by omega)) (by omega) ⟨.int (L.length : Int), H, I.tok _, ⟨s.toks + 1, by rw [hsz]⟩, q⟩
end
theorem k_setN {X : Cx} {K : PySem.W.Frag} {P : Program} {w : World} (hK : X.K = K) (hP : X.prog = P) (hw : X.w = w) (hc : X.calm = true) (hu : X.A.units + 64 < cLine) : CallR X (.type "set") (rSetN K P w) := by
  subst hK hP hw; exact cr_setN hc hu
theorem k_lenN {X : Cx} {P : Program} {w : World} (hP : X.prog = P) (hw : X.w = w) : CallR X (.builtin "len") (rLenN P w) := by
  subst hP hw; exact cr_lenN
end MB

set_option maxHeartbeats 4000000
namespace MB
open PySem PySem.Spec PyProof.Rows L2
/-! ### set(xs), xs a list of tuples, few of them different; sorted(set) -/
theorem nd_len {α : Type} [DecidableEq α] : ∀ (l D : List α), l.Nodup → (∀ x, x ∈ l → x ∈ D) → l.length ≤ D.length
  | [], _, _, _ => Nat.zero_le _
  | x :: l, D, hn, h => by
    obtain ⟨h1, h2⟩ := List.nodup_cons.mp hn
    have hx := h x (.head _)
    have := nd_len l (D.erase x) h2 fun y hy => (List.mem_erase_of_ne (fun e => h1 (by rw [← e]; exact hy))).mpr (h y (.tail _ hy))
    rw [List.length_erase_of_mem hx] at this
    have := List.length_pos_of_mem hx
    rw [List.length_cons]; omega
section
variable {P : Program} {w : World} {A : Around} {E : Value → Shared → Prop} {s : Shared}
/-- set.update over any items, few of them different -/
theorem update_few {I : Addr} {fp wr : List Addr} {G : Array GenState → Array GenState → Prop} {n : Nat} {Pv : Nat → Value → Prop} {St : Nat → Shared → Prop} {R : Result → Shared → Prop}
    (W : WalksS P w A.in1 I fp wr G n Pv St) (S : Addr) (hSf : S ∉ fp) (ks : List (Addr × List Int)) (hn : n = ks.length) (D : List (List Int)) (hD : D.length ≤ 62) (hin : ∀ p ∈ ks, p.2 ∈ D) (hval : ∀ i v, Pv i v → ∃ p, ks[i]? = some p ∧ v = .ref p.1)
    (h0 : Heap) (hk : ∀ p ∈ ks, IsT P w h0 p.2 p.1) (hS0 : h0.get? S = none) (hw0 : ∀ b ∈ wr, h0.get? b = none) (hu : A.in1.units < cLine) :
    ∀ (k i : Nat) (s : Shared), n - i = k → i ≤ n → St i s → (∀ b o, h0.get? b = some o → s.heap.get? b = some o) → (∃ L es ep t, SetTR P w s.heap S L es ep t ∧ Got ks i L) →
      (∀ s' L es ep t, Moved (S :: wr) G s s' → SetTR P w s'.heap S L es ep t → Got ks n L → (∀ b o, h0.get? b = some o → s'.heap.get? b = some o) → R (.ok (.ret .none)) s') →
      codeAny (model P w) A (.builtin "set.update.loop" ⟨[.ref S, .ref I], []⟩) R s := by
  have hSw : S ∉ wr := fun h => hSf (W.sub _ h)
  have hsub : ∀ b ∈ wr, b ∈ S :: wr := fun b hb => List.mem_cons_of_mem _ hb
  have stays : ∀ {s s' : Shared}, Moved wr G s s' → (∀ b o, h0.get? b = some o → s.heap.get? b = some o) → ∀ b o, h0.get? b = some o → s'.heap.get? b = some o := fun hm hkp b o e =>
    hm.heap b o (fun hb => by rw [hw0 b hb] at e; cases e) (hkp b o e)
  intro k
  induction k with
  | zero =>
    intro i s hk' hi hst hkp ⟨L, es, ep, t, hS, g⟩ hR
    obtain rfl : i = n := by omega
    refine codeAny_builtin F.entry_set_update_loop ?_
    rw [Around.under_plainId F.plain_set_update_loop _]
    show wpAny _ A.in1 (pyNext (.ref I) >>= _) _ _ s
    refine wpAny_bind (W.done s _ _ hst fun s' hm => ?_)
    show wpAny _ A.in1 (ret Value.none) _ _ s'
    have hkp' := stays hm hkp
    exact wpAny_pure (hR s' L es ep t (hm.mono hsub) (hS.keep (fun o e => hm.heap S o hSw e) fun p hp => isT_keep (hk p (List.mem_of_mem_take (g.sub p hp))) hkp') g hkp')
  | succ k ih =>
    intro i s hk' hi hst hkp ⟨L, es, ep, t, hS, g⟩ hR
    have hlt : i < n := by omega
    refine codeAny_builtin F.entry_set_update_loop ?_
    rw [Around.under_plainId F.plain_set_update_loop _]
    show wpAny _ A.in1 (pyNext (.ref I) >>= _) _ _ s
    refine wpAny_bind (W.item i s _ _ hlt hst fun v s' hP hst' hm => ?_)
    obtain ⟨p, hp, rfl⟩ := hval i v hP
    have hkp' := stays hm hkp
    have sub : ∀ q ∈ L, q ∈ ks := fun q hq => List.mem_of_mem_take (g.sub q hq)
    have hS' : SetTR P w s'.heap S L es ep t := hS.keep (fun o e => hm.heap S o hSw e) fun q hq => isT_keep (hk q (sub q hq)) hkp'
    have hx : IsT P w s'.heap p.2 p.1 := isT_keep (hk p (List.mem_of_getElem? hp)) hkp'
    have hLl : L.length ≤ 62 := by
      have := nd_len (L.map (·.2)) D hS.nd fun x hx => by
        obtain ⟨q, hq, rfl⟩ := List.mem_map.mp hx
        exact hin q (sub q hq)
      rw [List.length_map] at this; omega
    show wpAny _ A.in1 (holding [Value.ref p.1] (setAdd S (.ref p.1)) >>= _) _ _ s'
    refine wpAny_bind (wpAny_holding ?_)
    unfold setAdd
    refine wpAny_holding ?_
    refine wpAny_bind (wpAny_pyHash_tuple hu hx ?_)
    refine add_at (s := { s' with toks := s'.toks + (p.2.length + 1) }) hS' hx hu (by omega) fun b h' L' es' ep' t' hsb hS2 c1 c2 => ?_
    have g' : Got ks (i + 1) L' := by
      by_cases c : p.2 ∈ L.map (·.2)
      · rw [c1 c]; exact g.same hp c
      · exact g.more hp (c2 c)
    have hkp2 : ∀ b o, h0.get? b = some o → h'.get? b = some o := fun b o e => (hsb.2 b (fun z => by rw [z, hS0] at e; cases e)).trans (hkp' b o e)
    refine wpAny_pure ⟨plainId_quiet F.plain_set_update_loop _, ih (i + 1) _ (by omega) hlt (W.frame _ s' _ _ hst' (Nat.le_add_right _ _) fun b hb o e => ?_) hkp2 ⟨L', es', ep', t', hS2, g'⟩ fun s'' L2 es2 ep2 t2 hm'' hS'' g'' hkp'' => ?_⟩
    · rw [hsb.2 b (fun h : b = S => hSf (by rw [← h]; exact hb))]; exact e
    · refine hR s'' L2 es2 ep2 t2 (Moved.trans W.gtrans ((hm.mono hsub).then_heap (Nat.le_add_right _ _) fun b o hb e => ?_) hm'') hS'' g'' hkp''
      rw [hsb.2 b (fun h : b = S => hb (by rw [h]; exact .head _))]; exact e
theorem call_setF {l : Addr} {items : Array Value} (ks : List (Addr × List Int)) {Q : Value → Shared → Prop} (hh : A.handled = none) (hl : s.heap.IsList l items) (hit : items.toList = ks.map fun p => Value.ref p.1)
    (hk : ∀ p ∈ ks, IsT P w s.heap p.2 p.1) (D : List (List Int)) (hD : D.length ≤ 62) (hin : ∀ p ∈ ks, p.2 ∈ D) (hu : A.units + 3 < cLine)
    (h : ∀ (h' : Heap) (tk : Nat) L es ep t, SetTR P w h' s.heap.objs.size L es ep t → Got ks ks.length L → (∀ b o, s.heap.get? b = some o → h'.get? b = some o) → Q (.ref s.heap.objs.size) { s with heap := h', toks := tk }) :
    wpAny (model P w) A (call (.type "set") [.ref l]) Q E s := by
  have hisz : items.size = ks.length := by rw [← Array.length_toList, hit, List.length_map]
  obtain ⟨c, tl, hmro⟩ := F.called_set.mro
  have hmade := F.called_set.made
  have hsub := F.called_set.sub
  refine wpAny_call (codeAny_of_tree ?_)
  show wpAny _ _ (callAny (.type "set") _) _ _ _
  refine wpAny_pure ⟨Code.quiet_builtin _ (by decide +kernel), codeAny_builtin F.entry_type_call ?_⟩
  rw [Around.under_plain (weight_type_call_type "set" [.ref l] []) rfl]
  have h1 := F.called_set.notType
  have h2 := F.called_set.canCreate
  have hct := F.typeCall_set_1 (.ref l)
  repeat (any_goals (first | assumption | wp_step))
  refine codeAny_mono (code_set_led1 (.ref l) (E := E) (Q₁ := fun obj s₁ => obj = .ref s.heap.objs.size ∧ s₁ = { s with heap := s.heap.push (newSetObj w) }) ⟨rfl, rfl⟩) fun r s₁ hr => ?_
  rcases r with e | fl
  · exact hr
  rcases fl with _ | _ | _ | obj
  · exact hr.elim
  · exact hr.elim
  · exact hr.elim
  obtain ⟨rfl, rfl⟩ := hr
  have hS : (s.heap.push (newSetObj w)).get? s.heap.objs.size = some (newSetObj w) := Heap.get?_push_size _ rfl
  have hT : Shared.TypeIs { s with heap := s.heap.push (newSetObj w) } (.ref s.heap.objs.size) "set" := ⟨_, hS, rfl⟩
  have hli := F.called_set.init.lookup
  have hbi := F.called_set.init.bind (.ref s.heap.objs.size)
  repeat (any_goals (first | assumption | wp_step))
  refine codeAny_mono (codeAny_call_builtin (R := wants (fun r s₂ => r = .none ∧ ∃ h' tk L es ep t, s₂ = { s with heap := h', toks := tk } ∧ SetTR P w h' s.heap.objs.size L es ep t ∧ Got ks ks.length L ∧ (∀ b o, s.heap.get? b = some o → h'.get? b = some o)) E)
    F.called_set.init.plain F.entry_set_init (check_set_init_1 hT ?_)) fun r₂ s₂ hr₂ => ?_
  rotate_left
  · rcases r₂ with e | fl₂
    · exact hr₂
    rcases fl₂ with _ | _ | _ | r
    · exact hr₂.elim
    · exact hr₂.elim
    · exact hr₂.elim
    obtain ⟨rfl, h', tk, L, es, ep, t, rfl, hS', g', hk'⟩ := hr₂
    repeat (any_goals (first | assumption | wp_step))
    exact h _ _ _ _ _ _ hS' g' hk'
  obtain ⟨⟨ocls, odict, odata, oslots⟩, hol, hcl, nl, hdl⟩ := hl
  simp only at hcl hdl
  subst hcl; subst hdl
  have hol' : (s.heap.push (newSetObj w)).get? l = some { cls := .type "list", dict := odict, data := .seq items nl, slots := oslots } := Heap.get?_push_of_some _ hol
  have hsls := F.sub_list_set
  have hslf := F.sub_list_frozenset
  have hne : (Value.type "list" == Value.type "dict") = false := by decide
  have hl1 : (s.heap.push (newSetObj w)).IsList l items := ⟨_, hol', rfl, nl, rfl⟩
  unfold Builtin.«set.__init__» noKeywords Builtin.Frozenset.updateFrom
  generalize hPI : pyIter = PI
  wp_walk
  subst hPI
  refine wpAny_pyIter_list hl1 ?_
  refine wpAny_bind (wpAny_runValue ?_)
  have hlS : l < s.heap.objs.size := Heap.lt_size hol
  have hh3 : A.in1.in1.in1.handled = none := by simp [hh]
  have hz1 : (s.heap.push (newSetObj w)).objs.size = s.heap.objs.size + 1 := Heap.size_push ..
  have hneI : l ≠ (s.heap.push (newSetObj w)).objs.size := by rw [hz1]; exact Nat.ne_of_lt (Nat.lt_succ_of_lt hlS)
  have hSf : s.heap.objs.size ∉ [(s.heap.push (newSetObj w)).objs.size, l] := by
    rw [hz1]
    simp only [List.mem_cons, List.not_mem_nil, or_false, not_or]
    exact ⟨Nat.ne_of_lt (Nat.lt_succ_self _), Nat.ne_of_gt hlS⟩
  have hval : ∀ (i : Nat) (v : Value), items[i]? = some v → ∃ p, ks[i]? = some p ∧ v = .ref p.1 := fun i v hv => by
    have q : items.toList[i]? = some v := by rw [Array.getElem?_toList]; exact hv
    rw [hit, List.getElem?_map] at q
    obtain ⟨p, hp, e⟩ := Option.map_eq_some_iff.mp q
    exact ⟨p, hp, e.symm⟩
  refine update_few ((Walks.list hh3 _ l hneI items).toS) s.heap.objs.size hSf ks hisz D hD hin hval s.heap hk (Heap.get?_none_of_le (Nat.le_refl _)) (fun b hb => Heap.get?_none_of_le (by
      rw [List.mem_singleton.mp hb, hz1]; exact Nat.le_succ _)) hu (items.size - 0) 0 _ (by omega) (Nat.zero_le _)
    ⟨⟨_, Heap.get?_push_size _ rfl, rfl, rfl⟩, (hl1.push _)⟩ (fun b o e => Heap.get?_push_of_some _ (Heap.get?_push_of_some _ e)) ?_ ?_
  · exact ⟨[], #[], 0, _, setTR_fresh (Heap.get?_push_of_some _ hS), Got.zero ks⟩
  · intro s' L es ep t hm hS' g' hkp
    obtain ⟨h', g2, d', tk', os'⟩ := s'
    obtain rfl : g2 = s.gens := hm.gens
    obtain rfl : d' = s.drawn := hm.drawn
    obtain rfl : os' = s.os := hm.os
    rw [hisz] at g'
    show wpAny _ _ _ _ _ _
    refine wpAny_pure ?_
    show wpAny _ _ (ret Value.none) _ _ _
    exact wpAny_pure ⟨rfl, h', tk', L, es, ep, t, rfl, hS', g', hkp⟩
end
theorem perm_backF {α β : Type} {f : α → β} {o m : List β} (h : o.Perm m) : ∀ L : List α, m = L.map f → ∃ L1 : List α, L1.Perm L ∧ o = L1.map f := by
  induction h with
  | nil => exact fun L e => ⟨L, .refl _, e⟩
  | cons x p ih =>
    intro L e
    cases L with
    | nil => cases e
    | cons a L =>
      rw [List.map_cons] at e
      obtain ⟨e1, e2⟩ := List.cons.inj e
      obtain ⟨L1, p1, e3⟩ := ih L e2
      exact ⟨a :: L1, .cons a p1, by rw [e1, e3]; rfl⟩
  | swap x y l =>
    intro L e
    match L, e with
    | a :: b :: L, e =>
      rw [List.map_cons, List.map_cons] at e
      obtain ⟨e1, e2⟩ := List.cons.inj e
      obtain ⟨e3, e4⟩ := List.cons.inj e2
      exact ⟨b :: a :: L, .swap a b L, by rw [e1, e3, e4]; rfl⟩
  | trans p q ih1 ih2 =>
    intro L e
    obtain ⟨L1, p1, e1⟩ := ih2 L e
    obtain ⟨L2, p2, e2⟩ := ih1 L1 e1
    exact ⟨L2, p2.trans p1, e2⟩
section
variable {X : Cx}
def rSetF (K : PySem.W.Frag) (P : Program) (w : World) : List V → Hp → VK → Prop := fun xs H Q => ∃ (l : Addr) (ks : List (Addr × List Int)) (D : List (List Int)), xs = [V.ref l] ∧ SqL K H l (ks.map fun p => V.ref p.1) ∧ (∀ p ∈ ks, SqT K H p.1 (p.2.map V.int)) ∧ D.length ≤ 62 ∧ (∀ p ∈ ks, p.2 ∈ D) ∧
  ∀ a L, H a = none → (∀ p ∈ L, p ∈ ks) → (∀ p ∈ ks, p.2 ∈ L.map (·.2)) → (L.map (·.2)).Nodup → Q (.ref a) (upd H a (SetTO P w a L))
theorem cr_setF (hc : X.calm = true) (hu : X.A.units + 64 < cLine) : CallR X (.type "set") (rSetF X.K X.prog X.w) := by
  intro pins s σ H xs us Q I r h
  obtain ⟨l, ks, D, rfl, hl, hk, hD, hin, q⟩ := h
  rw [Vals.ref1 r]
  obtain ⟨its, rv, pl, hz⟩ := I.list hl
  refine call_setF (P := X.prog) (w := X.w) ks (I.ok.hd hc) pl.isList (by simpa using refs_of_vals rv) (fun p hp => I.isT (hk p hp)) D hD hin (by omega) fun h' tk L es ep t R g k => ?_
  refine ⟨.ref s.heap.objs.size, upd H s.heap.objs.size (SetTO X.prog X.w s.heap.objs.size L), I.laid (t' := tk) k (Nat.le_refl _) (setTO_new R.t0), rfl, q _ L (I.hok.fresh (Nat.le_refl _)) (fun p hp => List.mem_of_mem_take (g.sub p hp)) (fun p hp => g.all p (by rw [List.take_length]; exact hp)) R.nd⟩
end
section
variable {X : Cx}
def rSortSF (K : PySem.W.Frag) (P : Program) (w : World) : List V → Hp → VK → Prop := fun vs H Q => ∃ (a : Addr) (L : List (Addr × List Int)), vs = [V.ref a] ∧ H a = some (SetTO P w a L) ∧ (∀ p ∈ L, SqT K H p.1 (p.2.map V.int)) ∧ (2 ≤ L.length → ∀ p ∈ L, p.2 ≠ []) ∧
  ∀ (ys : List V) (mss : List (List Int)) (p : Addr), DpAll K H ys (mss.map dT) → mss.Perm (L.map (·.2)) → mss.Pairwise (fun a b => ltT b a = false) → H p = none → Q (.ref p) (upd H p (.lst ys))
theorem dp_refsF {K : PySem.W.Frag} {H : Hp} : ∀ (L : List (Addr × List Int)), (∀ p ∈ L, SqT K H p.1 (p.2.map V.int)) → DpAll K H (L.map fun p => V.ref p.1) ((L.map (·.2)).map dT)
  | [], _ => .nil
  | p :: L, h => .cons (dp_tup (h p (.head _))) (dp_refsF L fun q hq => h q (.tail _ hq))
theorem cr_sortSF (hc : X.calm = true) : CallR X (.builtin "sorted") (rSortSF X.K X.prog X.w) := by
  intro pins s σ H vs us Q I r h
  obtain ⟨a, L, rfl, ha, hk, hne, q⟩ := h
  have R0 : SetT0 X.prog X.w s.heap a L := (I.hok a _ ha).1
  obtain ⟨es, ep, t, R⟩ := R0.full fun p hp => I.isT (hk p hp)
  rw [Vals.ref1 r]
  obtain ⟨o, ho, hex, hd⟩ := R.ob
  have hsz := R.size
  have hfew := R.few
  refine Calls.call_function_entry kind_sorted plain_sorted entry_sorted (args_sorted1 _) ?_
  unfold Builtin.«sorted»
  refine wpAny_bind (m := checkCount "sorted" 1 1 _) (wpAny_pure ?_)
  refine wpAny_bind (collect_set (A := X.A.in1) (I.ok.hd hc) ⟨o, ho, hex.1, hd⟩ R.fits (by rw [hsz]; unfold scanBound; omega) R.tab.ris R.led fun s1 out k1 hz g1 o1 pm => ?_)
  have hes : es.toList.map (·.2) = L.map fun q => Value.ref q.1 := by
    rw [R.rows, rowsOf, List.map_map]; rfl
  rw [hes] at pm
  obtain ⟨L1, pL, rfl⟩ := perm_backF pm L rfl
  have I1 : Inv X pins σ H s1 := by
    have J : Inv X pins σ H { s with heap := s1.heap, gens := s1.gens, drawn := s1.drawn, toks := s1.toks } := I.call (ch := []) (Un.kept k1) (I.hok.kept k1) (by rw [g1]; exact I.bare) (fun _ z => nomatch z)
    have e : s1 = { s with heap := s1.heap, gens := s1.gens, drawn := s1.drawn, toks := s1.toks } := by
      cases s1; cases s; cases o1; rfl
    rw [e]; exact J
  have hA : DpAll X.K H (L1.map fun p => V.ref p.1) ((L1.map (·.2)).map dT) := dp_refsF L1 fun p hp => hk p (pL.mem_iff.mp hp)
  have rv : Vals (L1.map fun p => V.ref p.1) (L1.map fun q => Value.ref q.1) := vals_of_refs L1
  obtain ⟨e1, e2⟩ := tups_raw I1 hA rv
  have hlen : L1.length = L.length := pL.length_eq
  have hz1 : (L1.map fun q => Value.ref q.1).length ≤ sizeLine := by rw [List.length_map, sizeLine_eq]; omega
  generalize L1.map (fun q => Value.ref q.1) = its at rv e1 e2 hz1 ⊢
  refine wpAny_bind (wpAny_newList ?_ hz1)
  have hoL : (s1.heap.push (seqObj "list" its.toArray 0)).get? s1.heap.objs.size = some (seqObj "list" its.toArray 0) := Heap.get?_push_size _ rfl
  show wpAny _ _ _ _ _ { s1 with heap := s1.heap.push (seqObj "list" its.toArray 0) }
  have k0 : G.KeepsTups s1.heap (s1.heap.push (seqObj "list" its.toArray 0)) := G.KeepsTups.push _ _
  have k6 := k0.trans (G.keeps_sort6 (vs := its) hoL)
  have hkey : ∀ v, v ∈ its → ∃ l, G.tupKeyC s1.heap noS v = some l := fun v hv => by
    obtain ⟨b, _, ht, _⟩ := e2 v hv
    exact ⟨_, key_of ht⟩
  have hl0 : its.length = L1.length := by rw [← rv.length, List.length_map]
  refine wpAny_bind (wpAny_holding (wpAny_call_entry PyProof.Rows.slot_list_sort ⟨_, hoL, rfl⟩ PyProof.Rows.entry_list_sort
    (G.list_sort_treeG (κ := G.tupKindC s1.heap noS) (kd := tuples' true) (s := { s1 with heap := s1.heap.push (seqObj "list" its.toArray 0) }) hoL (G.tupKeys hkey) (G.tupC_ltAt true k6) (fun h2 Q' hq => ?_) hz1 fun st' hp hs _ => ⟨_, rfl, ?_⟩)
    (PyProof.Rows.args_list_sort _)))
  · obtain ⟨fs, ht⟩ := tupsOf_ex (h := s1.heap) (us := its) fun u hu => by
      obtain ⟨b, _, ht, _⟩ := e2 u hu
      refine ⟨ht, ?_⟩
      have hm : (TS.intsOf s1.heap u) ∈ L1.map (·.2) := by rw [e1]; exact List.mem_map.mpr ⟨u, hu, rfl⟩
      obtain ⟨p, hp, ep⟩ := List.mem_map.mp hm
      rw [← ep]
      exact hne (by omega) p (pL.mem_iff.mp hp)
    exact tup_kind (by rw [G.TupsOf.length ht]; omega) (G.TupsOf.keep k6 ht) hq
  · obtain ⟨us', ys, mss, f1, f2, f3, f4, f5, f6⟩ := sort_out I1 e1 e2 hp hs
    obtain ⟨e', he'⟩ := PyProof.Rows.sortedHeap_at (vs := its) (out := (arrOf st').map (·.2)) hoL
    have hly : ys.length ≤ sizeLine := by rw [f3]; exact hz1
    refine wpAny_pure ⟨_, rfl, .ref s1.heap.objs.size, upd H s1.heap.objs.size (.lst ys), I1.laid (t' := s1.toks) (fun b u e => ?_) (Nat.le_refl _) (show ObjOk X.prog X.w _ _ _ (.lst ys) from ⟨hly, us', e', f2, by rw [← f1, Array.toArray_toList]; exact he'⟩), rfl, q ys mss _ f4 (f5.trans (pL.map _)) f6 (I1.hok.fresh (Nat.le_refl _))⟩
    have hb : b < s1.heap.objs.size := Heap.lt_size e
    rw [PyProof.Rows.sortedHeap_old (Nat.ne_of_lt hb) (by rw [size_push']; exact Nat.lt_succ_of_lt hb)]
    exact Heap.get?_push_of_some _ e
end
theorem k_setF {X : Cx} {K : PySem.W.Frag} {P : Program} {w : World} (hK : X.K = K) (hP : X.prog = P) (hw : X.w = w) (hc : X.calm = true) (hu : X.A.units + 64 < cLine) : CallR X (.type "set") (rSetF K P w) := by
  subst hK hP hw; exact cr_setF hc hu
theorem k_sortSF {X : Cx} {K : PySem.W.Frag} {P : Program} {w : World} (hK : X.K = K) (hP : X.prog = P) (hw : X.w = w) (hc : X.calm = true) : CallR X (.builtin "sorted") (rSortSF K P w) := by
  subst hK hP hw; exact cr_sortSF hc
end MB

set_option maxHeartbeats 4000000
namespace MB
/-- the terms above 0 of the representation of n with k terms -/
def rl : Nat → Nat → List Nat
  | 0, _ => []
  | k + 1, n => if n = 0 then [] else bin (k + lwr (k + 1) n) (k + 1) :: rl k (n - bin (k + lwr (k + 1) n) (k + 1))
theorem rl_zero (k : Nat) : rl k 0 = [] := by cases k <;> simp [rl]
theorem rl_succ {k n : Nat} (h : n ≠ 0) : rl (k + 1) n = bin (k + lwr (k + 1) n) (k + 1) :: rl k (n - bin (k + lwr (k + 1) n) (k + 1)) := by simp [rl, h]
theorem lw_pos {k n : Nat} (hk : 1 ≤ k) (hn : n ≠ 0) : 1 ≤ lwr k n := by
  have h := (lw_ok n hk).1
  by_cases c : lwr k n = 0
  · rw [c] at h
    have : bin (k + 0) k = 1 := bin_self k
    omega
  · omega
theorem top_le {k n : Nat} (hn : n ≠ 0) : bin (k + lwr (k + 1) n) (k + 1) ≤ n := by
  have h1 := lw_pos (k := k + 1) (by omega) hn
  have h2 := (lw_ok (k := k + 1) n (by omega)).2 (lwr (k + 1) n - 1) (by omega)
  rwa [show k + 1 + (lwr (k + 1) n - 1) = k + lwr (k + 1) n by omega] at h2
theorem top_pos {k n : Nat} (hn : n ≠ 0) : 0 < bin (k + lwr (k + 1) n) (k + 1) :=
  bin_pos (by have := lw_pos (k := k + 1) (by omega) hn; omega)
theorem rest_lt {k n : Nat} (hn : n ≠ 0) : n - bin (k + lwr (k + 1) n) (k + 1) < bin (k + lwr (k + 1) n) k := by
  have h1 := (lw_ok (k := k + 1) n (by omega)).1
  have h2 := top_le (k := k) hn
  rw [show k + 1 + lwr (k + 1) n = (k + lwr (k + 1) n) + 1 by omega, bin_succ] at h1
  omega
theorem rest_zero {n : Nat} (hn : n ≠ 0) : n - bin (0 + lwr (0 + 1) n) (0 + 1) = 0 := by
  have := rest_lt (k := 0) hn
  rw [bin_zero] at this
  omega
theorem rl_sum : ∀ k n : Nat, (k = 0 → n = 0) → (rl k n).sum = n
  | 0, n, h => by rw [h rfl]; rfl
  | k + 1, n, _ => by
    by_cases hn : n = 0
    · subst hn; rw [rl_zero]; rfl
    · rw [rl_succ hn, List.sum_cons, rl_sum k _ (fun e => by subst e; exact rest_zero hn)]
      have := top_le (k := k) hn
      omega
theorem rl_len : ∀ k n : Nat, (rl k n).length ≤ k
  | 0, n => by simp [rl]
  | k + 1, n => by
    by_cases hn : n = 0
    · subst hn; rw [rl_zero]; simp
    · rw [rl_succ hn, List.length_cons]
      have := rl_len k (n - bin (k + lwr (k + 1) n) (k + 1))
      omega
theorem rl_pos : ∀ k n : Nat, ∀ x, x ∈ rl k n → 0 < x ∧ x ≤ n
  | 0, n, x, h => by simp [rl] at h
  | k + 1, n, x, h => by
    by_cases hn : n = 0
    · subst hn; rw [rl_zero] at h; cases h
    · rw [rl_succ hn] at h
      rcases List.mem_cons.mp h with h | h
      · rw [h]; exact ⟨top_pos hn, top_le hn⟩
      · have := rl_pos k _ x h
        omega
/-- the last flush's run holds what was merged and its own -/
theorem rl_step : ∀ k n : Nat, ∃ m, m ≤ (rl (k + 1) n).length ∧ rl (k + 1) (n + 1) = (rl (k + 1) n).take m ++ [1 + ((rl (k + 1) n).drop m).sum]
  | k, n => by
    by_cases hn : n = 0
    · subst hn
      refine ⟨0, Nat.zero_le _, ?_⟩
      rw [rl_zero, rl_succ (by omega)]
      have e : lwr (k + 1) (0 + 1) = 1 := (lw_ok (0 + 1) (by omega)).uniq (Lw.mk' (by
        have := bin_big (k := k + 1) (c := 1) (by omega); omega) (.inr (by rw [show k + 1 + (1 - 1) = k + 1 by omega, bin_self]; exact Nat.le_refl _)))
      rw [e, bin_self, show 0 + 1 - 1 = 0 by omega, rl_zero]
      rfl
    · have hc := lw_ok (k := k + 1) n (by omega)
      by_cases hlt : n + 1 < bin (k + 1 + lwr (k + 1) n) (k + 1)
      · have e : lwr (k + 1) (n + 1) = lwr (k + 1) n := (lw_ok (n + 1) (by omega)).uniq ⟨hlt, fun d hd => Nat.le_succ_of_le (hc.2 d hd)⟩
        cases k with
        | zero =>
          exfalso
          have h1 := rest_zero hn
          rw [bin_one] at h1 hlt
          have h2 := top_le (k := 0) hn
          rw [bin_one] at h2
          omega
        | succ k =>
          have hT := top_le (k := k + 1) hn
          obtain ⟨m, hm, hs⟩ := rl_step k (n - bin (k + 1 + lwr (k + 1 + 1) n) (k + 1 + 1))
          refine ⟨m + 1, ?_, ?_⟩
          · rw [rl_succ hn, List.length_cons]; omega
          · rw [rl_succ (n := n + 1) (by omega), e, rl_succ hn, show n + 1 - bin (k + 1 + lwr (k + 1 + 1) n) (k + 1 + 1) = n - bin (k + 1 + lwr (k + 1 + 1) n) (k + 1 + 1) + 1 by omega, hs]
            simp
      · have e0 : n + 1 = bin (k + 1 + lwr (k + 1) n) (k + 1) := by have := hc.1; omega
        have e : lwr (k + 1) (n + 1) = lwr (k + 1) n + 1 := (lw_ok (n + 1) (by omega)).uniq (Lw.mk' (by
          rw [e0]; exact bin_strict (by omega) (by omega) (by omega)) (.inr (by rw [show lwr (k + 1) n + 1 - 1 = lwr (k + 1) n by omega]; omega)))
        refine ⟨0, Nat.zero_le _, ?_⟩
        rw [rl_succ (n := n + 1) (by omega), e, show k + (lwr (k + 1) n + 1) = k + 1 + lwr (k + 1) n by omega, ← e0, Nat.sub_self, rl_zero]
        have := rl_sum (k + 1) n (fun h => by omega)
        simp [this]
        omega
/-- just behind a lifetime there is one run -/
theorem rl_edge {k c : Nat} (hk : 1 ≤ k) : rl k (bin (k + c) k) = [bin (k + c) k] := by
  obtain ⟨j, rfl⟩ : ∃ j, k = j + 1 := ⟨k - 1, by omega⟩
  have hp := bin_pos (n := j + 1 + c) (k := j + 1) (by omega)
  have e : lwr (j + 1) (bin (j + 1 + c) (j + 1)) = c + 1 := (lw_ok _ (by omega)).uniq (Lw.mk' (bin_strict (by omega) (by omega) (by omega)) (.inr (by rw [show c + 1 - 1 = c by omega]; exact Nat.le_refl _)))
  rw [rl_succ (by omega), e, show j + (c + 1) = j + 1 + c by omega, Nat.sub_self, rl_zero]
/-- each term is a binomial coefficient, with falling upper numbers -/
theorem rl_tops : ∀ k n a : Nat, n < bin a k → ∃ ts : List Nat, ts.length = (rl k n).length ∧ (∀ i t, ts[i]? = some t → (rl k n)[i]? = some (bin t (k - i)) ∧ k - i ≤ t ∧ 1 ≤ k - i ∧ t < a) ∧ ∀ i t u, ts[i]? = some t → ts[i + 1]? = some u → u < t
  | 0, n, a, h => ⟨[], by simp [rl], by simp, by simp⟩
  | k + 1, n, a, h => by
    by_cases hn : n = 0
    · subst hn; exact ⟨[], by rw [rl_zero], by simp, by simp⟩
    · have h1 := lw_pos (k := k + 1) (by omega) hn
      have hlt : k + lwr (k + 1) n < a := by
        have h2 := top_le (k := k) hn
        by_cases c : k + lwr (k + 1) n < a
        · exact c
        · have := bin_mono (n := a) (m := k + lwr (k + 1) n) (k + 1) (by omega); omega
      obtain ⟨ts, e1, e2, e3⟩ := rl_tops k (n - bin (k + lwr (k + 1) n) (k + 1)) (k + lwr (k + 1) n) (rest_lt hn)
      refine ⟨(k + lwr (k + 1) n) :: ts, by rw [rl_succ hn]; simp [e1], ?_, ?_⟩
      · intro i t ht
        cases i with
        | zero =>
          simp only [List.getElem?_cons_zero, Option.some.injEq] at ht
          subst ht
          refine ⟨by rw [rl_succ hn]; rfl, by omega, by omega, hlt⟩
        | succ i =>
          simp only [List.getElem?_cons_succ] at ht
          obtain ⟨g1, g2, g3, g4⟩ := e2 i t ht
          refine ⟨by rw [rl_succ hn, List.getElem?_cons_succ, show k + 1 - (i + 1) = k - i by omega]; exact g1, by omega, by omega, by omega⟩
      · intro i t u ht hu
        cases i with
        | zero =>
          simp only [List.getElem?_cons_zero, Option.some.injEq] at ht
          simp only [List.getElem?_cons_succ] at hu
          subst ht
          exact (e2 0 u hu).2.2.2
        | succ i =>
          simp only [List.getElem?_cons_succ] at ht hu
          exact e3 i t u ht hu
end MB

set_option maxHeartbeats 4000000
namespace MB
/-! ### states: the greatest of the newer runs, what is left -/
def mx : List Nat → Nat
  | [] => 0
  | x :: xs => max x (mx xs)
theorem mx_cons (x : Nat) (xs : List Nat) : mx (x :: xs) = max x (mx xs) := rfl
theorem mx_fold : ∀ (xs : List Nat) (x : Nat), (xs.map (fun (m : Nat) => (m : Int))).foldl max (x : Int) = ((mx (x :: xs) : Nat) : Int)
  | [], x => by simp [mx]
  | y :: ys, x => by
    rw [List.map_cons, List.foldl_cons, show max (x : Int) (y : Int) = ((max x y : Nat) : Int) by omega, mx_fold ys (max x y)]
    simp only [mx]
    omega
theorem mx_le {c : Nat} : ∀ {xs : List Nat}, (∀ x, x ∈ xs → x ≤ c) → mx xs ≤ c
  | [], _ => Nat.zero_le _
  | x :: xs, h => by
    have h1 := h x (List.mem_cons_self ..)
    have h2 := mx_le (c := c) (xs := xs) fun y hy => h y (List.mem_cons_of_mem _ hy)
    rw [mx_cons]; omega
theorem mx_mem {x : Nat} : ∀ {xs : List Nat}, x ∈ xs → x ≤ mx xs
  | y :: ys, h => by
    rw [mx_cons]
    rcases List.mem_cons.mp h with h | h
    · subst h; omega
    · have := mx_mem h; omega
/-- a state within (k, c) -/
def Sta (k c : Nat) (st : List Nat) : Prop := st.length ≤ k ∧ ∀ x, x ∈ st → 1 ≤ x ∧ x ≤ c
theorem Sta.tail {k c x : Nat} {xs : List Nat} (h : Sta k c (x :: xs)) : Sta (k - 1) (mx (x :: xs)) xs :=
  ⟨by have := h.1; rw [List.length_cons] at this; omega, fun y hy => ⟨(h.2 y (List.mem_cons_of_mem _ hy)).1, by have := mx_mem hy; rw [mx_cons]; omega⟩⟩
theorem Sta.mx_le {k c : Nat} {st : List Nat} (h : Sta k c st) : mx st ≤ c := MB.mx_le fun x hx => (h.2 x hx).2
theorem Sta.mx_pos {k c x : Nat} {xs : List Nat} (h : Sta k c (x :: xs)) : 1 ≤ mx (x :: xs) := by
  have := (h.2 x (List.mem_cons_self ..)).1
  rw [mx_cons]; omega
theorem Sta.mono {k c k' c' : Nat} {st : List Nat} (h : Sta k c st) (h1 : k ≤ k') (h2 : c ≤ c') : Sta k' c' st :=
  ⟨by have := h.1; omega, fun x hx => ⟨(h.2 x hx).1, by have := (h.2 x hx).2; omega⟩⟩
/-- as the program adds it up -/
def remv : Nat → Nat → List Nat → Int
  | k, c, [] => (bin (k + c) k : Int) - 1
  | k, c, x :: xs => ((bin (k + c) k : Int) - (bin (k + mx (x :: xs)) k : Int)) + remv (k - 1) (mx (x :: xs)) xs
/-- what each run takes off -/
def brd : Nat → List Nat → Nat
  | _, [] => 0
  | k, x :: xs => bin (k + mx (x :: xs) - 1) k + brd (k - 1) xs
theorem pascal {k m : Nat} (hk : 1 ≤ k) (hm : 1 ≤ m) : bin (k + m) k = bin (k - 1 + m) (k - 1) + bin (k + m - 1) k := by
  obtain ⟨j, rfl⟩ : ∃ j, k = j + 1 := ⟨k - 1, by omega⟩
  rw [show j + 1 + m = (j + m) + 1 by omega, bin_succ, show j + 1 - 1 + m = j + m by omega, show j + 1 - 1 = j by omega, show j + m + 1 - 1 = j + m by omega]
theorem remv_brd : ∀ {k c : Nat} {st : List Nat}, Sta k c st → remv k c st = (bin (k + c) k : Int) - 1 - (brd k st : Int)
  | k, c, [], _ => by simp [remv, brd]
  | k, c, x :: xs, h => by
    have h1 := remv_brd h.tail
    have hk : 1 ≤ k := by have := h.1; rw [List.length_cons] at this; omega
    have hp := pascal hk h.mx_pos
    simp only [remv, brd]
    rw [h1]
    omega
theorem brd_le : ∀ {k c : Nat} {st : List Nat}, Sta k c st → brd k st + 1 ≤ bin (k + c) k
  | k, c, [], _ => by have := bin_pos (n := k + c) (k := k) (by omega); simp [brd]; omega
  | k, c, x :: xs, h => by
    have h1 := brd_le h.tail
    have hk : 1 ≤ k := by have := h.1; rw [List.length_cons] at this; omega
    have hp := pascal hk h.mx_pos
    have hm := bin_mono (n := k + mx (x :: xs)) (m := k + c) k (by have := h.mx_le; omega)
    simp only [brd]
    omega
theorem brd_room : ∀ {k c : Nat} {st : List Nat}, Sta k c st → 1 ≤ c → brd (k + 1) st + 1 ≤ brd k st + bin (k + c) (k + 1)
  | k, c, [], _, hc => by have := bin_pos (n := k + c) (k := k + 1) (by omega); simp [brd]; omega
  | k, c, x :: xs, h, hc => by
    have hk : 1 ≤ k := by have := h.1; rw [List.length_cons] at this; omega
    have h1 := brd_room h.tail h.mx_pos
    obtain ⟨j, rfl⟩ : ∃ j, k = j + 1 := ⟨k - 1, by omega⟩
    have hp := h.mx_pos
    have hm := bin_mono (n := j + 1 + mx (x :: xs)) (m := j + 1 + c) (j + 1 + 1) (by have := h.mx_le; omega)
    simp only [brd]
    rw [show j + 1 + 1 - 1 = j + 1 by omega, show j + 1 - 1 = j by omega] at *
    generalize mx (x :: xs) = M at *
    obtain ⟨m, rfl⟩ : ∃ m, M = m + 1 := ⟨M - 1, by omega⟩
    have e1 : bin (j + 1 + 1 + (m + 1) - 1) (j + 1 + 1) = bin (j + (m + 1)) (j + 1) + bin (j + 1 + m) (j + 1 + 1) := by
      rw [show j + 1 + 1 + (m + 1) - 1 = (j + m + 1) + 1 by omega, bin_succ, show j + m + 1 = j + (m + 1) by omega, show j + 1 + m = j + (m + 1) by omega]
    have e2 : bin (j + 1 + (m + 1)) (j + 1 + 1) = bin (j + (m + 1)) (j + 1) + bin (j + 1 + m) (j + 1 + 1) := by
      rw [show j + 1 + (m + 1) = (j + (m + 1)) + 1 by omega, bin_succ, show j + 1 + m = j + (m + 1) by omega]
    rw [show j + 1 + (m + 1) - 1 = j + (m + 1) by omega]
    omega
/-- element by element at most -/
def Le2 : List Nat → List Nat → Prop
  | [], _ => True
  | _ :: _, [] => False
  | x :: xs, y :: ys => x ≤ y ∧ Le2 xs ys
theorem Le2.refl : ∀ xs : List Nat, Le2 xs xs
  | [] => trivial
  | _ :: xs => ⟨Nat.le_refl _, Le2.refl xs⟩
theorem Le2.mx : ∀ {xs ys : List Nat}, Le2 xs ys → mx xs ≤ mx ys
  | [], _, _ => Nat.zero_le _
  | _ :: _, _ :: _, h => by
    have := Le2.mx h.2
    have := h.1
    rw [mx_cons, mx_cons]; omega
theorem Le2.brd : ∀ {k : Nat} {xs ys : List Nat}, Le2 xs ys → brd k xs ≤ brd k ys
  | _, [], _, _ => Nat.zero_le _
  | k, x :: xs, y :: ys, h => by
    have h1 := Le2.brd (k := k - 1) h.2
    have h2 := Le2.mx (xs := x :: xs) (ys := y :: ys) h
    have h3 := bin_mono (n := k + MB.mx (x :: xs) - 1) (m := k + MB.mx (y :: ys) - 1) k (by omega)
    simp only [MB.brd]
    omega
theorem Le2.dropLast : ∀ xs : List Nat, Le2 xs.dropLast xs
  | [] => trivial
  | [_] => trivial
  | x :: y :: xs => ⟨Nat.le_refl _, Le2.dropLast (y :: xs)⟩
theorem Le2.set : ∀ {xs : List Nat} {i v x : Nat}, xs[i]? = some x → v ≤ x → Le2 (xs.set i v) xs
  | [], i, v, x, h, _ => by simp at h
  | y :: ys, 0, v, x, h, hv => by
    simp at h; subst h
    exact ⟨hv, Le2.refl _⟩
  | y :: ys, i + 1, v, x, h, hv => ⟨Nat.le_refl _, Le2.set (by simpa using h) hv⟩
theorem brd_tail : ∀ {k x : Nat} {xs : List Nat}, brd k xs ≤ brd k (x :: xs)
  | k, x, [] => Nat.zero_le _
  | k, x, y :: ys => by
    have h1 := brd_tail (k := k - 1) (x := y) (xs := ys)
    have h3 := bin_mono (n := k + mx (y :: ys) - 1) (m := k + mx (x :: y :: ys) - 1) k (by simp only [mx]; omega)
    show bin (k + mx (y :: ys) - 1) k + brd (k - 1) ys ≤ bin (k + mx (x :: y :: ys) - 1) k + brd (k - 1) (y :: ys)
    omega
end MB

set_option maxHeartbeats 4000000
namespace MB
/-- the state after a flush that merges m runs -/
def sa (st : List Nat) (m : Nat) : List Nat := st.take (st.length - m) ++ [1 + mx (st.drop (st.length - m))]
theorem mx_append : ∀ xs ys : List Nat, mx (xs ++ ys) = max (mx xs) (mx ys)
  | [], ys => by simp [mx]
  | x :: xs, ys => by rw [List.cons_append, mx_cons, mx_cons, mx_append xs ys]; omega
theorem sa_all (st : List Nat) : sa st st.length = [1 + mx st] := by simp [sa]
theorem sa_cons {x : Nat} {xs : List Nat} {m : Nat} (h : m ≤ xs.length) : sa (x :: xs) m = x :: sa xs m := by
  unfold sa
  rw [List.length_cons, show xs.length + 1 - m = (xs.length - m) + 1 by omega]
  simp
theorem sa_len {st : List Nat} {m : Nat} (h : m ≤ st.length) : (sa st m).length = st.length - m + 1 := by
  unfold sa
  rw [List.length_append, List.length_take]
  simp
theorem sa_mx {st : List Nat} {m : Nat} : mx st ≤ mx (sa st m) := by
  unfold sa
  rw [mx_append]
  have h := mx_append (st.take (st.length - m)) (st.drop (st.length - m))
  rw [List.take_append_drop] at h
  simp only [mx]
  omega
/-- elements from 1 on, as many as there is room for -/
def Pos (k : Nat) (st : List Nat) : Prop := st.length ≤ k ∧ ∀ x, x ∈ st → 1 ≤ x
theorem Sta.pos {k c : Nat} {st : List Nat} (h : Sta k c st) : Pos k st := ⟨h.1, fun x hx => (h.2 x hx).1⟩
theorem Pos.sta {k : Nat} {st : List Nat} (h : Pos k st) : Sta k (mx st) st := ⟨h.1, fun x hx => ⟨h.2 x hx, mx_mem hx⟩⟩
theorem Pos.tail {k x : Nat} {xs : List Nat} (h : Pos k (x :: xs)) : Pos (k - 1) xs ∧ 1 ≤ k ∧ 1 ≤ x :=
  ⟨⟨by have := h.1; rw [List.length_cons] at this; omega, fun y hy => h.2 y (List.mem_cons_of_mem _ hy)⟩, by have := h.1; rw [List.length_cons] at this; omega, h.2 x (List.mem_cons_self ..)⟩
theorem brd_one (k v : Nat) : brd k [1 + v] = bin (k + v) k := by
  simp only [brd, mx]
  rw [show k + max (1 + v) 0 - 1 = k + v by omega]; rfl
/-- every flush costs at least one -/
theorem brd_sa : ∀ {k : Nat} {st : List Nat} {m : Nat}, Pos k st → m ≤ st.length → brd k st + 1 ≤ brd k (sa st m)
  | k, [], m, h, hm => by
    have : m = 0 := by simpa using hm
    subst this
    show brd k [] + 1 ≤ brd k [1 + 0]
    rw [brd_one, show k + 0 = k by omega, bin_self]
    simp [brd]
  | k, x :: xs, m, h, hm => by
    by_cases e : m = xs.length + 1
    · subst e
      rw [show xs.length + 1 = (x :: xs).length from rfl, sa_all, brd_one]
      exact brd_le h.sta
    · have hm' : m ≤ xs.length := by rw [List.length_cons] at hm; omega
      obtain ⟨h1, hk, hx⟩ := h.tail
      have ih := brd_sa h1 hm'
      rw [sa_cons hm']
      have hm2 := sa_mx (st := xs) (m := m)
      have hb := bin_mono (n := k + mx (x :: xs) - 1) (m := k + mx (x :: sa xs m) - 1) k (by rw [mx_cons, mx_cons]; omega)
      simp only [brd]
      omega
/-- what stands before the merged runs is greater than they are; these are exhausted -/
def Tight (k : Nat) (st : List Nat) (j : Nat) : Prop := (j = 0 ∨ ∃ y, st[j - 1]? = some y ∧ mx (st.drop j) < y) ∧ brd (k - j) (st.drop j) + 1 = bin (k - j + mx (st.drop j)) (k - j)
theorem brd_sa_eq : ∀ {k : Nat} {st : List Nat} {m : Nat}, Pos k st → m ≤ st.length → (brd k (sa st m) = brd k st + 1 ↔ Tight k st (st.length - m))
  | k, [], m, h, hm => by
    have : m = 0 := by simpa using hm
    subst this
    have e1 : brd k (sa [] 0) = 1 := by
      show brd k [1 + 0] = 1
      rw [brd_one, show k + 0 = k by omega, bin_self]
    rw [e1]
    refine ⟨fun _ => ⟨.inl rfl, ?_⟩, fun _ => by simp [brd]⟩
    simp only [List.drop_nil, mx, brd, List.length_nil]
    rw [show k - (0 - 0) + 0 = k - (0 - 0) by omega, bin_self]
  | k, x :: xs, m, h, hm => by
    by_cases e : m = xs.length + 1
    · subst e
      rw [show xs.length + 1 = (x :: xs).length from rfl, sa_all, brd_one, Nat.sub_self]
      constructor
      · intro e
        refine ⟨.inl rfl, ?_⟩
        simp only [Nat.sub_zero, List.drop_zero]
        omega
      · rintro ⟨_, e⟩
        simp only [Nat.sub_zero, List.drop_zero] at e
        omega
    · have hm' : m ≤ xs.length := by rw [List.length_cons] at hm; omega
      obtain ⟨h1, hk, hx⟩ := h.tail
      have ih := brd_sa_eq h1 hm'
      have ih1 := brd_sa h1 hm'
      rw [sa_cons hm']
      have hm2 := sa_mx (st := xs) (m := m)
      have hb := bin_mono (n := k + mx (x :: xs) - 1) (m := k + mx (x :: sa xs m) - 1) k (by rw [mx_cons, mx_cons]; omega)
      have hJ : (x :: xs).length - m = (xs.length - m) + 1 := by rw [List.length_cons]; omega
      rw [hJ]
      have hd : (x :: xs).drop (xs.length - m + 1) = xs.drop (xs.length - m) := rfl
      have hkk : k - (xs.length - m + 1) = k - 1 - (xs.length - m) := by omega
      have e1 : brd k (x :: sa xs m) = bin (k + mx (x :: sa xs m) - 1) k + brd (k - 1) (sa xs m) := rfl
      have e2 : brd k (x :: xs) = bin (k + mx (x :: xs) - 1) k + brd (k - 1) xs := rfl
      have step : brd k (x :: sa xs m) = brd k (x :: xs) + 1 ↔ (mx (x :: sa xs m) = mx (x :: xs) ∧ brd (k - 1) (sa xs m) = brd (k - 1) xs + 1) := by
        constructor
        · intro e
          have hq : bin (k + mx (x :: sa xs m) - 1) k = bin (k + mx (x :: xs) - 1) k := by omega
          refine ⟨?_, by omega⟩
          by_cases c : mx (x :: sa xs m) = mx (x :: xs)
          · exact c
          · have h0 : 1 ≤ mx (x :: xs) := by rw [mx_cons]; omega
            have h00 : mx (x :: xs) < mx (x :: sa xs m) := by rw [mx_cons, mx_cons] at c ⊢; omega
            have := bin_strict (n := k + mx (x :: xs) - 1) (m := k + mx (x :: sa xs m) - 1) (k := k) hk (by omega) (by omega)
            omega
        · rintro ⟨c1, c2⟩
          rw [e1, e2, c1, c2]; omega
      rw [step, ih]
      unfold Tight
      rw [hd, hkk]
      have hdec : mx xs = max (mx (xs.take (xs.length - m))) (mx (xs.drop (xs.length - m))) := by
        rw [← mx_append, List.take_append_drop]
      have hsa : mx (sa xs m) = max (mx (xs.take (xs.length - m))) (1 + mx (xs.drop (xs.length - m))) := by
        unfold sa; rw [mx_append]; simp [mx]
      constructor
      · rintro ⟨c1, c2, c3⟩
        refine ⟨.inr ?_, c3⟩
        rcases c2 with c2 | ⟨y, y1, y2⟩
        · rw [c2] at hsa hdec ⊢
          simp only [List.take_zero, mx] at hsa hdec
          refine ⟨x, rfl, ?_⟩
          rw [mx_cons, mx_cons] at c1
          omega
        · by_cases z : xs.length - m = 0
          · rw [z] at hsa hdec ⊢
            simp only [List.take_zero, mx] at hsa hdec
            refine ⟨x, rfl, ?_⟩
            rw [mx_cons, mx_cons] at c1
            omega
          · refine ⟨y, ?_, y2⟩
            rw [show xs.length - m + 1 - 1 = (xs.length - m - 1) + 1 by omega, List.getElem?_cons_succ]
            exact y1
      · rintro ⟨c2, c3⟩
        rcases c2 with c2 | ⟨y, y1, y2⟩
        · omega
        · by_cases z : xs.length - m = 0
          · rw [z] at y1 y2 hsa hdec c3 ⊢
            simp only [List.take_zero, mx] at hsa hdec
            have : y = x := by simpa using y1.symm
            subst this
            refine ⟨by rw [mx_cons, mx_cons]; omega, .inl rfl, c3⟩
          · rw [show xs.length - m + 1 - 1 = (xs.length - m - 1) + 1 by omega, List.getElem?_cons_succ] at y1
            have hy : y ≤ mx (xs.take (xs.length - m)) := by
              refine mx_mem (List.mem_of_getElem? (i := xs.length - m - 1) ?_)
              rw [List.getElem?_take, if_pos (by omega)]; exact y1
            refine ⟨by rw [mx_cons, mx_cons]; omega, .inr ⟨y, y1, y2⟩, c3⟩
/-- nothing is left: no room, and the newest run at the limit -/
theorem exh_iff : ∀ {k R : Nat} {xs : List Nat}, Sta k R xs → (brd k xs + 1 = bin (k + R) k ↔ (R = 0 ∨ (xs.length = k ∧ ∀ y, xs.getLast? = some y → y = R)))
  | k, R, [], h => by
    simp only [brd, List.length_nil, List.getLast?_nil]
    constructor
    · intro e
      by_cases hR : R = 0
      · exact .inl hR
      · refine .inr ⟨?_, by simp⟩
        by_cases hk : k = 0
        · exact hk.symm
        · have := bin_big (k := k) (c := R) (by omega); omega
    · rintro (rfl | ⟨rfl, _⟩)
      · show 0 + 1 = bin k k
        rw [bin_self]
      · rw [bin_zero]
  | k, R, x :: xs, h => by
    have hk : 1 ≤ k := by have := h.1; rw [List.length_cons] at this; omega
    have hM := h.mx_pos
    have hMR := h.mx_le
    have ht := h.tail
    have hp := pascal hk hM
    have hle := brd_le ht
    have e2 : brd k (x :: xs) = bin (k + mx (x :: xs) - 1) k + brd (k - 1) xs := rfl
    have hR : R ≠ 0 := by omega
    have key : brd k (x :: xs) + 1 = bin (k + R) k ↔ (mx (x :: xs) = R ∧ brd (k - 1) xs + 1 = bin (k - 1 + R) (k - 1)) := by
      constructor
      · intro e
        have hmm : mx (x :: xs) = R := by
          by_cases c : mx (x :: xs) = R
          · exact c
          · have := bin_strict (n := k + mx (x :: xs)) (m := k + R) (k := k) hk (by omega) (by omega)
            omega
        rw [hmm] at hp e2
        exact ⟨hmm, by omega⟩
      · rintro ⟨c1, c2⟩
        rw [c1] at hp e2
        omega
    rw [key]
    constructor
    · rintro ⟨c1, c2⟩
      rw [c1] at ht
      rcases (exh_iff ht).mp c2 with c | ⟨c3, c4⟩
      · exact absurd c hR
      · refine .inr ⟨by rw [List.length_cons]; omega, fun y hy => ?_⟩
        cases xs with
        | nil =>
          have : y = x := by simpa using hy.symm
          subst this
          simpa [mx] using c1
        | cons z zs =>
          rw [List.getLast?_cons_cons] at hy
          exact c4 y hy
    · rintro (c | ⟨c3, c4⟩)
      · exact absurd c hR
      · have hlast : ∃ y, (x :: xs).getLast? = some y := ⟨(x :: xs).getLast (by simp), List.getLast?_eq_some_getLast (by simp)⟩
        obtain ⟨y, hy⟩ := hlast
        have hyR := c4 y hy
        subst hyR
        have hmm : mx (x :: xs) = y := by
          have := mx_mem (List.mem_of_getLast? hy)
          omega
        refine ⟨hmm, ?_⟩
        rw [hmm] at ht
        refine (exh_iff ht).mpr (.inr ⟨by rw [List.length_cons] at c3; omega, fun z hz => ?_⟩)
        cases xs with
        | nil => simp at hz
        | cons u us =>
          rw [List.getLast?_cons_cons] at hy
          rw [hz] at hy
          exact Option.some.inj hy
/-- the bound of what is merged: the next older run, or the limit of writes -/
def bnd (c : Nat) (st : List Nat) (j : Nat) : Nat := (c :: st).getD j 0
def tst (c : Nat) (st : List Nat) (m : Nat) : Prop := mx (st.drop (st.length - m)) < bnd c st (st.length - m)
def few (k : Nat) (st : List Nat) : Nat := if st.length < k then 0 else 1
/-- what best_merge returns -/
def Bm (k c : Nat) (st : List Nat) (m : Nat) : Prop := few k st ≤ m ∧ m ≤ st.length ∧ tst c st m ∧ ∀ m', few k st ≤ m' → m' < m → ¬ tst c st m'
def BmN (k c : Nat) (st : List Nat) : Prop := ∀ m, few k st ≤ m → m ≤ st.length → ¬ tst c st m
theorem bnd_zero {c : Nat} {st : List Nat} : bnd c st 0 = c := rfl
theorem bnd_succ {c j : Nat} {st : List Nat} {y : Nat} (h : st[j]? = some y) : bnd c st (j + 1) = y := by
  simp [bnd, List.getD_eq_getElem?_getD, h]
/-- while no test holds, the greatest of the merged runs is the newest one -/
theorem chain {c : Nat} {st : List Nat} {m : Nat} (hm : m ≤ st.length) (hno : ∀ m', 1 ≤ m' → m' < m → ¬ tst c st m') (h1 : 1 ≤ m) : ∀ y, st.getLast? = some y → mx (st.drop (st.length - m)) = y := by
  induction m with
  | zero => omega
  | succ m ih =>
    intro y hy
    by_cases hm0 : m = 0
    · subst hm0
      have hne : st ≠ [] := by intro e; subst e; simp at hy
      have hpos := List.length_pos_iff.mpr hne
      have e : st.drop (st.length - (0 + 1)) = [st.getLast hne] := by
        rw [List.drop_eq_getElem_cons (show st.length - (0 + 1) < st.length by omega), show st.length - (0 + 1) + 1 = st.length by omega, List.drop_length, List.getLast_eq_getElem]
      rw [e]
      rw [List.getLast?_eq_some_getLast hne] at hy
      have := Option.some.inj hy
      simp [mx, this]
    · have ih' := ih (by omega) (fun m' a b => hno m' a (by omega)) (by omega) y hy
      have hf := hno m (by omega) (by omega)
      have hj : st.length - m = (st.length - (m + 1)) + 1 := by omega
      have hlt : st.length - (m + 1) < st.length := by omega
      have ed : st.drop (st.length - (m + 1)) = st[st.length - (m + 1)] :: st.drop (st.length - m) := by
        rw [hj]; exact List.drop_eq_getElem_cons hlt
      unfold tst at hf
      rw [hj, bnd_succ (List.getElem?_eq_getElem hlt), ← hj] at hf
      rw [ed, mx_cons]
      omega
theorem last_mem {st : List Nat} {y : Nat} (h : st.getLast? = some y) : y ∈ st := List.mem_of_getLast? h
theorem sa_sta {k c : Nat} {st : List Nat} {m : Nat} (h : Sta k c st) (hm : m ≤ st.length) (h1 : st.length - m + 1 ≤ k) (h2 : 1 + mx (st.drop (st.length - m)) ≤ c) : Sta k c (sa st m) := by
  refine ⟨by rw [sa_len hm]; exact h1, fun x hx => ?_⟩
  unfold sa at hx
  rcases List.mem_append.mp hx with hx | hx
  · exact h.2 x (List.mem_of_mem_take hx)
  · have : x = 1 + mx (st.drop (st.length - m)) := by simpa using hx
    subst this
    omega
theorem tst_ok {k c : Nat} {st : List Nat} {m : Nat} (h : Sta k c st) (hm : m ≤ st.length) (ht : tst c st m) : 1 + mx (st.drop (st.length - m)) ≤ c ∧ (st.length - m = 0 ∨ ∃ y, st[st.length - m - 1]? = some y ∧ mx (st.drop (st.length - m)) < y) := by
  unfold tst at ht
  by_cases hj : st.length - m = 0
  · rw [hj, bnd_zero] at ht
    exact ⟨by rw [hj]; omega, .inl hj⟩
  · have hlt : st.length - m - 1 < st.length := by omega
    have e : st.length - m = (st.length - m - 1) + 1 := by omega
    have hb := bnd_succ (c := c) (List.getElem?_eq_getElem hlt)
    rw [← e] at hb
    rw [hb] at ht
    have := h.2 _ (List.getElem_mem hlt)
    exact ⟨by omega, .inr ⟨_, List.getElem?_eq_getElem hlt, ht⟩⟩
theorem Bm.good {k c : Nat} {st : List Nat} {m : Nat} (h : Sta k c st) (b : Bm k c st m) : Sta k c (sa st m) ∧ brd k (sa st m) = brd k st + 1 := by
  obtain ⟨b1, b2, b3, b4⟩ := b
  obtain ⟨t1, t2⟩ := tst_ok h b2 b3
  have hl := h.1
  by_cases hk : st.length < k
  · have hf : few k st = 0 := if_pos hk
    have hm0 : m = 0 := by
      by_cases c0 : m = 0
      · exact c0
      · exfalso
        refine b4 0 (by omega) (by omega) ?_
        unfold tst
        rw [Nat.sub_zero, List.drop_length]
        have hlt : st.length - 1 < st.length := by omega
        have e : st.length = (st.length - 1) + 1 := by omega
        have hb := bnd_succ (c := c) (List.getElem?_eq_getElem hlt)
        rw [← e] at hb
        rw [hb]
        exact (h.2 _ (List.getElem_mem hlt)).1
    subst hm0
    refine ⟨sa_sta h b2 (by omega) t1, (brd_sa_eq h.pos b2).mpr ⟨t2, ?_⟩⟩
    rw [Nat.sub_zero, List.drop_length]
    show 0 + 1 = bin (k - st.length) (k - st.length)
    rw [bin_self]
  · have hf : few k st = 1 := if_neg hk
    rw [hf] at b1 b4
    refine ⟨sa_sta h b2 (by omega) t1, (brd_sa_eq h.pos b2).mpr ⟨t2, ?_⟩⟩
    have hne : st ≠ [] := by intro e; subst e; simp at b2; omega
    have hy : st.getLast? = some (st.getLast hne) := List.getLast?_eq_some_getLast hne
    have hc := chain b2 b4 b1 _ hy
    have hS : Sta (k - (st.length - m)) (mx (st.drop (st.length - m))) (st.drop (st.length - m)) :=
      ⟨by rw [List.length_drop]; omega, fun x hx => ⟨(h.2 x (List.mem_of_mem_drop hx)).1, mx_mem hx⟩⟩
    refine (exh_iff hS).mpr (.inr ⟨by rw [List.length_drop]; omega, fun y hy2 => ?_⟩)
    rw [hc]
    rw [List.getLast?_drop, if_neg (by omega), hy] at hy2
    exact (Option.some.inj hy2).symm
theorem BmN.zero {k c : Nat} {st : List Nat} (h : Sta k c st) (b : BmN k c st) : brd k st + 1 = bin (k + c) k := by
  have hl := h.1
  refine (exh_iff h).mpr ?_
  by_cases hk : st.length < k
  · have hf : few k st = 0 := if_pos hk
    have h0 := b 0 (by omega) (by omega)
    unfold tst at h0
    rw [Nat.sub_zero, List.drop_length] at h0
    by_cases hn : st.length = 0
    · rw [hn, bnd_zero] at h0
      simp only [mx] at h0
      exact .inl (by omega)
    · exfalso
      have hlt : st.length - 1 < st.length := by omega
      have e : st.length = (st.length - 1) + 1 := by omega
      have hb := bnd_succ (c := c) (List.getElem?_eq_getElem hlt)
      rw [← e] at hb
      rw [hb] at h0
      have := (h.2 _ (List.getElem_mem hlt)).1
      simp only [mx] at h0
      omega
  · have hf : few k st = 1 := if_neg hk
    refine .inr ⟨by omega, fun y hy => ?_⟩
    have hne : st ≠ [] := by intro e; subst e; simp at hy
    have h1 : 1 ≤ st.length := by have := List.length_pos_iff.mpr hne; omega
    have hc := chain (c := c) (Nat.le_refl _) (fun m' a b' => b m' (by omega) (by omega)) h1 y hy
    have hlast := b st.length (by omega) (Nat.le_refl _)
    unfold tst at hlast
    rw [Nat.sub_self, bnd_zero] at hlast
    rw [Nat.sub_self] at hc
    have := (h.2 y (last_mem hy)).2
    omega
/-- only one merge costs just one -/
theorem good_uniq {k c : Nat} {st : List Nat} {m n : Nat} (h : Sta k c st) (hm : m ≤ st.length) (hn : n ≤ st.length) (s1 : Sta k c (sa st m)) (s2 : Sta k c (sa st n)) (e1 : brd k (sa st m) = brd k st + 1) (e2 : brd k (sa st n) = brd k st + 1) : m = n := by
  have hl := h.1
  have look : ∀ m, m ≤ st.length → Sta k c (sa st m) → brd k (sa st m) = brd k st + 1 → (m = 0 ∧ st.length < k) ∨ (1 ≤ m ∧ st.length = k ∧ (∀ y, st.getLast? = some y → y = mx (st.drop (st.length - m))) ∧ (st.length - m = 0 ∨ ∃ y, st[st.length - m - 1]? = some y ∧ mx (st.drop (st.length - m)) < y)) := fun m hm s e => by
    obtain ⟨t1, t2⟩ := (brd_sa_eq h.pos hm).mp e
    have hs := s.1
    rw [sa_len hm] at hs
    by_cases h0 : m = 0
    · exact .inl ⟨h0, by omega⟩
    · refine .inr ⟨by omega, ?_⟩
      have hS : Sta (k - (st.length - m)) (mx (st.drop (st.length - m))) (st.drop (st.length - m)) :=
        ⟨by rw [List.length_drop]; omega, fun x hx => ⟨(h.2 x (List.mem_of_mem_drop hx)).1, mx_mem hx⟩⟩
      rcases (exh_iff hS).mp t2 with c | ⟨c1, c2⟩
      · exfalso
        have hlt : st.length - m < st.length := by omega
        have hmem : st[st.length - m] ∈ st.drop (st.length - m) := by
          rw [List.drop_eq_getElem_cons hlt]; exact List.mem_cons_self ..
        have := mx_mem hmem
        have := (h.2 _ (List.getElem_mem hlt)).1
        omega
      · rw [List.length_drop] at c1
        refine ⟨by omega, fun y hy => c2 y ?_, t1⟩
        rw [List.getLast?_drop, if_neg (by omega)]; exact hy
  have order : ∀ m n, m ≤ st.length → n ≤ st.length → m < n → Sta k c (sa st m) → Sta k c (sa st n) → brd k (sa st m) = brd k st + 1 → brd k (sa st n) = brd k st + 1 → False := fun m n hm hn hlt s1 s2 e1 e2 => by
    rcases look m hm s1 e1 with ⟨a1, a2⟩ | ⟨a1, a2, a3, a4⟩
    · rcases look n hn s2 e2 with ⟨b1, b2⟩ | ⟨b1, b2, b3, b4⟩ <;> omega
    · rcases look n hn s2 e2 with ⟨b1, b2⟩ | ⟨b1, b2, b3, b4⟩
      · omega
      · have hne : st ≠ [] := by intro e; subst e; simp at hn; omega
        have hy : st.getLast? = some (st.getLast hne) := List.getLast?_eq_some_getLast hne
        have q1 := a3 _ hy
        have q2 := b3 _ hy
        rcases a4 with a4 | ⟨y, y1, y2⟩
        · omega
        · have hmem : y ∈ st.drop (st.length - n) := by
            refine List.mem_of_getElem? (i := (st.length - m - 1) - (st.length - n)) ?_
            rw [List.getElem?_drop, show st.length - n + (st.length - m - 1 - (st.length - n)) = st.length - m - 1 by omega]
            exact y1
          have := mx_mem hmem
          omega
  rcases Nat.lt_trichotomy m n with c | c | c
  · exact (order m n hm hn c s1 s2 e1 e2).elim
  · exact c
  · exact (order n m hn hm c s2 s1 e2 e1).elim
end MB

set_option maxHeartbeats 4000000
namespace MB
/-- no newer run is above an older one -/
def Desc (st : List Nat) : Prop := st.Pairwise fun x y => y ≤ x
theorem Desc.mx {x : Nat} {xs : List Nat} (h : Desc (x :: xs)) : mx (x :: xs) = x := by
  have h1 := (List.pairwise_cons.mp h).1
  have := MB.mx_le (c := x) h1
  rw [mx_cons]; omega
theorem Desc.tail {x : Nat} {xs : List Nat} (h : Desc (x :: xs)) : Desc xs := (List.pairwise_cons.mp h).2
/-- the lengths of the runs -/
def lens : Nat → List Nat → List Nat
  | _, [] => []
  | k, x :: xs => bin (k + x - 1) k :: lens (k - 1) xs
theorem lens_len : ∀ (k : Nat) (st : List Nat), (lens k st).length = st.length
  | _, [] => rfl
  | k, x :: xs => by simp [lens, lens_len (k - 1) xs]
theorem lw_desc {k x : Nat} {xs : List Nat} (h : Pos k (x :: xs)) (d : Desc (x :: xs)) : lwr k (brd k (x :: xs)) = x := by
  obtain ⟨h1, hk, hx⟩ := h.tail
  have hb := brd_le h.sta
  have e : brd k (x :: xs) = bin (k + mx (x :: xs) - 1) k + brd (k - 1) xs := rfl
  rw [d.mx] at hb e
  refine (lw_ok _ hk).uniq (Lw.mk' (by omega) (.inr ?_))
  rw [show k + (x - 1) = k + x - 1 by omega]
  omega
theorem rl_desc : ∀ {k : Nat} {st : List Nat}, Pos k st → Desc st → rl k (brd k st) = lens k st
  | k, [], _, _ => by simp [brd, lens, rl_zero]
  | k, x :: xs, h, d => by
    have hl := lw_desc h d
    obtain ⟨h1, hk, hx⟩ := h.tail
    have ih := rl_desc h1 d.tail
    have e : brd k (x :: xs) = bin (k + x - 1) k + brd (k - 1) xs := by
      show bin (k + mx (x :: xs) - 1) k + brd (k - 1) xs = _
      rw [d.mx]
    obtain ⟨j, rfl⟩ : ∃ j, k = j + 1 := ⟨k - 1, by omega⟩
    have hp := bin_pos (n := j + 1 + x - 1) (k := j + 1) (by omega)
    have hne : brd (j + 1) (x :: xs) ≠ 0 := by omega
    rw [rl_succ hne, hl]
    have e2 : j + x = j + 1 + x - 1 := by omega
    rw [e2, e]
    show _ :: _ = bin (j + 1 + x - 1) (j + 1) :: lens (j + 1 - 1) xs
    rw [show bin (j + 1 + x - 1) (j + 1) + brd (j + 1 - 1) xs - bin (j + 1 + x - 1) (j + 1) = brd (j + 1 - 1) xs by omega, show j + 1 - 1 = j by omega]
    rw [show j + 1 - 1 = j by omega] at ih
    rw [ih]
theorem rl_desc_len {k : Nat} {st : List Nat} (h : Pos k st) (d : Desc st) : (rl k (brd k st)).length = st.length := by rw [rl_desc h d, lens_len]
theorem sa_desc {st : List Nat} {m : Nat} (d : Desc st) (hm : m ≤ st.length) (t : st.length - m = 0 ∨ ∃ y, st[st.length - m - 1]? = some y ∧ mx (st.drop (st.length - m)) < y) : Desc (sa st m) := by
  unfold sa Desc
  refine List.pairwise_append.mpr ⟨d.sublist (List.take_sublist _ _), List.pairwise_singleton _ _, fun x hx v hv => ?_⟩
  have hv' : v = 1 + mx (st.drop (st.length - m)) := by simpa using hv
  subst hv'
  rcases t with t | ⟨y, y1, y2⟩
  · rw [t] at hx; simp at hx
  · obtain ⟨i, hi⟩ := List.getElem?_of_mem hx
    rw [List.getElem?_take] at hi
    by_cases c : i < st.length - m
    · rw [if_pos c] at hi
      have hyx : y ≤ x := by
        by_cases e : i = st.length - m - 1
        · subst e; rw [y1] at hi; have := Option.some.inj hi; omega
        · obtain ⟨q1, r1⟩ := List.getElem?_eq_some_iff.mp hi
          obtain ⟨q2, r2⟩ := List.getElem?_eq_some_iff.mp y1
          have := List.pairwise_iff_getElem.mp d i (st.length - m - 1) q1 q2 (by omega)
          omega
      omega
    · rw [if_neg c] at hi; cases hi
theorem Bm.tight {k c : Nat} {st : List Nat} {m : Nat} (h : Sta k c st) (b : Bm k c st m) : st.length - m = 0 ∨ ∃ y, st[st.length - m - 1]? = some y ∧ mx (st.drop (st.length - m)) < y := (tst_ok h b.2.1 b.2.2.1).2
/-- the policy's merges and states -/
def pm (k n : Nat) : Nat := (rl k n).length + 1 - (rl k (n + 1)).length
def pst (k : Nat) : Nat → List Nat
  | 0 => []
  | n + 1 => sa (pst k n) (pm k n)
theorem bm_ex {k c : Nat} {st : List Nat} (h : Sta k c st) (hlt : brd k st + 1 < bin (k + c) k) : ∃ m, Bm k c st m := by
  by_cases e : ∃ m, few k st ≤ m ∧ m ≤ st.length ∧ tst c st m
  · obtain ⟨m, hm⟩ := e
    induction m using Nat.strongRecOn with
    | ind m ih =>
      by_cases c' : ∃ m', m' < m ∧ few k st ≤ m' ∧ m' ≤ st.length ∧ tst c st m'
      · obtain ⟨m', h1, h2⟩ := c'
        exact ih m' h1 h2
      · exact ⟨m, hm.1, hm.2.1, hm.2.2, fun m' a b t => c' ⟨m', b, a, by have := hm.2.1; omega, t⟩⟩
  · exfalso
    have := BmN.zero h fun m a b t => e ⟨m, a, b, t⟩
    omega
/-- the best merge from a descending state is the policy's -/
theorem bm_pm {k c : Nat} {st : List Nat} {m : Nat} (h : Sta k c st) (d : Desc st) (b : Bm k c st m) : m = pm k (brd k st) ∧ Sta k c (sa st m) ∧ Desc (sa st m) ∧ brd k (sa st m) = brd k st + 1 := by
  obtain ⟨g1, g2⟩ := b.good h
  have d2 := sa_desc d b.2.1 (b.tight h)
  refine ⟨?_, g1, d2, g2⟩
  unfold pm
  rw [rl_desc_len h.pos d, ← g2, rl_desc_len g1.pos d2, sa_len b.2.1]
  have := b.2.1
  omega
theorem sta_of {k c : Nat} {st : List Nat} (h : Pos k st) (d : Desc st) (hc : brd k st < bin (k + c) k) : Sta k c st := by
  refine ⟨h.1, fun x hx => ⟨h.2 x hx, ?_⟩⟩
  cases st with
  | nil => cases hx
  | cons y ys =>
    have h1 := lw_desc h d
    have h2 := mx_mem hx
    rw [d.mx] at h2
    obtain ⟨_, hk, _⟩ := h.tail
    have h3 := (lw_ok (brd k (y :: ys)) hk).2
    rw [h1] at h3
    by_cases e : y ≤ c
    · omega
    · have := h3 c (by omega); omega
theorem pst_ok {k : Nat} (hk : 1 ≤ k) : ∀ n, Pos k (pst k n) ∧ Desc (pst k n) ∧ brd k (pst k n) = n
  | 0 => ⟨⟨by simp [pst], by simp [pst]⟩, List.Pairwise.nil, rfl⟩
  | n + 1 => by
    obtain ⟨h1, h2, h3⟩ := pst_ok hk n
    have hb := bin_big (k := k) (c := n + 2) hk
    have hs := sta_of (c := n + 2) h1 h2 (by omega)
    obtain ⟨m, b⟩ := bm_ex hs (by omega)
    obtain ⟨e, g1, g2, g3⟩ := bm_pm hs h2 b
    rw [h3] at e g3
    subst e
    exact ⟨g1.pos, g2, g3⟩
theorem pm_le {k : Nat} (hk : 1 ≤ k) (n : Nat) : pm k n ≤ (pst k n).length := by
  obtain ⟨h1, h2, h3⟩ := pst_ok hk n
  have hb := bin_big (k := k) (c := n + 2) hk
  have hs := sta_of (c := n + 2) h1 h2 (by omega)
  obtain ⟨m, b⟩ := bm_ex hs (by omega)
  obtain ⟨e, _⟩ := bm_pm hs h2 b
  rw [h3] at e
  subst e
  exact b.2.1
theorem pst_len {k : Nat} (hk : 1 ≤ k) (n : Nat) : (pst k n).length = (rl k n).length := by
  obtain ⟨h1, h2, h3⟩ := pst_ok hk n
  have := rl_desc_len h1 h2
  rw [h3] at this
  exact this.symm
theorem pm_int {k : Nat} (hk : 1 ≤ k) (n : Nat) : ((rl k n).length : Int) + 1 - ((rl k (n + 1)).length : Int) = (pm k n : Int) := by
  have h1 := pst_len hk n
  have h2 := pst_len hk (n + 1)
  have h3 := pm_le hk n
  have h4 : (pst k (n + 1)).length = (pst k n).length - pm k n + 1 := sa_len h3
  unfold pm at *
  omega
end MB

set_option maxHeartbeats 4000000
namespace MB
open PySem PySem.Spec PyProof.Rows L2
theorem alike_ints (ns : List Int) : PySem.W.AlikeAll (ns.map PyData.int) := by
  refine ⟨fun x hx y hy => ?_, fun x hx e => ?_⟩
  · obtain ⟨i, _, rfl⟩ := List.mem_map.mp hx
    obtain ⟨j, _, rfl⟩ := List.mem_map.mp hy
    simp [PySem.W.alike]
  · obtain ⟨i, _, rfl⟩ := List.mem_map.mp hx
    cases e
theorem depth_ints : ∀ ns : List Int, PyData.depthAll (ns.map PyData.int) = 0
  | [] => by simp [PyData.depthAll]
  | n :: ns => by simp [PyData.depthAll, PyData.depth, depth_ints ns]
/-! ### max of a tuple of ints; with default= -/
def rMaxT (K : PySem.W.Frag) : List V → Hp → VK → Prop := fun xs H Q => ∃ (a : Addr) (n : Int) (ns : List Int), xs = [V.ref a] ∧ SqT K H a ((n :: ns).map V.int) ∧ Q (.int (ns.foldl max n)) H
theorem cr_maxT {X : Cx} {K : PySem.W.Frag} (hK : X.K = K) (hc : X.calm = true) (hu : X.A.units + 64 < cLine) : CallR X (.builtin "max") (rMaxT K) := by
  subst hK
  intro pins s σ H vs us Q I r h
  obtain ⟨a, n, ns, rfl, hs, q⟩ := h
  obtain ⟨its, rv, hl, _⟩ := I.tuple hs
  rw [Vals.ref1 r]
  obtain ⟨as, rd⟩ := Dp.readsAll I ((n :: ns).map PyData.int) _ its (dp_ints (n :: ns)) rv
  refine PySem.W.max_tuple_data (x := .int n) (xs := ns.map PyData.int) (I.ok.hd hc) hl (by simpa using rd) (alike_ints (n :: ns)) ?_ fun i v h' tk bs _ hr hk => ?_
  · have := depth_ints (n :: ns)
    rw [List.map_cons] at this
    rw [this]; omega
  · rw [PySem.W.maxD_ints] at hr
    cases hr
    exact ⟨.int _, H, I.kept hk, ⟨_, rfl⟩, q⟩
def rMaxDef (K : PySem.W.Frag) : List V → List V → Hp → VK → Prop := fun xs zs H Q => ∃ (a : Addr) (z : Int) (ns : List Int), xs = [V.ref a] ∧ zs = [V.int z] ∧ SqT K H a (ns.map V.int) ∧ (ns = [] → Q (.int z) H) ∧ ∀ m r, ns = m :: r → Q (.int (r.foldl max m)) H
theorem cr_maxDef {X : Cx} {K : PySem.W.Frag} (hK : X.K = K) (hc : X.calm = true) (hu : X.A.units + 64 < cLine) : CallRK X (.builtin "max") [Str.ofString "default"] (rMaxDef K) := by
  subst hK
  intro pins s σ H vs zs us ws Q I r rz h
  obtain ⟨a, z, ns, rfl, rfl, hs, q0, q1⟩ := h
  obtain ⟨its, rv, hl, _⟩ := I.tuple hs
  rw [Vals.ref1 r]
  obtain ⟨u, rfl, tz, rfl⟩ := vals1 rz
  obtain ⟨as, rd⟩ := Dp.readsAll I (ns.map PyData.int) _ its (dp_ints ns) rv
  refine PySem.W.max_tuple_default (xs := ns.map PyData.int) (I.ok.hd hc) hl (by simpa using rd) (alike_ints ns) ?_ (fun e h' tk hk => ?_) fun y ys i v h' tk bs e _ hr hk => ?_
  · rw [depth_ints ns]; omega
  · exact ⟨.int z, H, I.kept hk, ⟨_, rfl⟩, q0 (List.map_eq_nil_iff.mp e)⟩
  · cases ns with
    | nil => cases e
    | cons m t =>
      rw [List.map_cons] at e
      cases e
      rw [PySem.W.maxD_ints] at hr
      cases hr
      exact ⟨.int _, H, I.kept hk, ⟨_, rfl⟩, q1 m t rfl⟩
/-! ### sorted of a tuple of ints -/
section
variable {prog : Program} {w : World} {A : Around} {E : Value → Shared → Prop} {s : Shared}
theorem gather_tuple {p : Addr} {xs : List Value} {R : List Value → Shared → Prop} (ht : s.heap.IsTuple p xs.toArray) (hz : xs.length ≤ sizeLine)
    (q : R xs { s with heap := (s.heap.push (seqObj "list" #[] 0)).update s.heap.objs.size (Obj.mapSeq (· ++ xs.toArray)) }) : wpAny (model prog w) A (collect (.ref p)) R E s := by
  obtain ⟨ob, hob, hcl, ep, hdt⟩ := id ht
  unfold collect
  refine wpAny_bind (wpAny_runValue (codeAny_builtin entry_proto_collect' (show wpAny _ _ (do again (.builtin "list.__iadd__" ⟨[← newList [], .ref p], []⟩)) _ _ s from ?_)))
  refine wpAny_bind (wpAny_newList (wpAny_pure ⟨Code.quiet_builtin _ (by decide +kernel), codeAny_builtin entry_list_iadd' (show wpAny _ _ (Builtin.List.listExtendWith (.ref s.heap.objs.size) (.ref p) (.ref s.heap.objs.size)) _ _ { s with heap := s.heap.push (seqObj "list" #[] 0) } from ?_)⟩))
  unfold Builtin.List.listExtendWith
  have hob' : (s.heap.push (seqObj "list" #[] 0)).get? p = some ob := Heap.get?_push_of_some _ hob
  refine wpAny_bind (wpAny_typeOf (T := "tuple") ⟨ob, hob', hcl⟩ ?_)
  have tt : (Value.type "tuple" == Value.type "tuple") = true := by rfl
  rw [if_pos (by rw [tt]; simp)]
  refine wpAny_bind (listItems_at hob' hdt (wpAny_bind (listItems_at (xs := #[]) (n := 0) (Heap.get?_push_size _ rfl) rfl ?_)))
  rw [if_neg (by simp)]
  refine wpAny_bind (listUpdate_at (xs := #[]) (n := 0) (Heap.get?_push_size _ rfl) rfl (wpAny_pure ?_) (Nat.zero_le _) (by show (#[] ++ xs.toArray).size ≤ sizeLine + 1; simp only [Array.size_append, List.size_toArray, List.length_nil]; omega))
  show wpAny (model prog w) A (load s.heap.objs.size >>= _) R E { s with heap := (s.heap.push (seqObj "list" #[] 0)).update s.heap.objs.size (Obj.mapSeq (· ++ xs.toArray)) }
  refine wpAny_bind (wpAny_load (get?_update_seq (Heap.get?_push_size _ rfl) _) (show wpAny _ _ (pure ((#[] : Array Value) ++ xs.toArray).toList) R E _ from ?_))
  have ex : ((#[] : Array Value) ++ xs.toArray).toList = xs := by simp
  rw [ex]
  exact wpAny_pure q
theorem sorted_tup {p : Addr} {xs : List Value} {ns : List Int} {Q : Value → Shared → Prop} (ht : s.heap.IsTuple p xs.toArray) (hz : xs.length ≤ sizeLine) (hi : IntsAre xs ns)
    (q : ∀ out : List Value, SrtO.Srtd SrtO.ltIv out → SrtO.Stb SrtO.ltIv out xs → Q (.ref (s.heap.objs.size + 1)) { s with heap := sortedAll s.heap xs out.toArray }) :
    wpAny (model prog w) A (call (.builtin "sorted") [.ref p]) Q E s := by
  refine Calls.call_function_entry kind_sorted plain_sorted entry_sorted (args_sorted1 _) ?_
  unfold Builtin.«sorted»
  refine wpAny_bind (m := checkCount "sorted" 1 1 _) (wpAny_pure (wpAny_bind (gather_tuple ht hz (wpAny_bind (wpAny_newList ?_ hz)))))
  have sz1 : ((s.heap.push (seqObj "list" #[] 0)).update s.heap.objs.size (Obj.mapSeq (· ++ xs.toArray))).objs.size = s.heap.objs.size + 1 := (Heap.size_update ..).trans (Heap.size_push ..)
  have hoL := Heap.get?_push_size ((s.heap.push (seqObj "list" #[] 0)).update s.heap.objs.size (Obj.mapSeq (· ++ xs.toArray))) (o := seqObj "list" xs.toArray 0) rfl
  rw [sz1] at hoL
  show wpAny _ _ _ _ _ { s with heap := ((s.heap.push (seqObj "list" #[] 0)).update s.heap.objs.size (Obj.mapSeq (· ++ xs.toArray))).push (seqObj "list" xs.toArray 0) }
  rw [sz1]
  exact wpAny_bind (wpAny_holding (wpAny_call_entry PyProof.Rows.slot_list_sort ⟨_, hoL, rfl⟩ PyProof.Rows.entry_list_sort (SrtO.list_sort_ord SrtO.swo_int hoL hz (fun h2 => SrtO.ints_sortable hi h2) fun out hs hb => ⟨_, rfl, wpAny_pure ⟨_, rfl, q out hs hb⟩⟩) (PyProof.Rows.args_list_sort _)))
end
def rSortT (K : PySem.W.Frag) : List V → Hp → VK → Prop := fun xs H Q => ∃ (a : Addr) (ns : List Int), xs = [V.ref a] ∧ SqT K H a (ns.map V.int) ∧ ∀ (ms : List Int) (p : Addr), ms.Perm ns → H p = none → Q (.ref p) (upd H p (.lst (ms.map V.int)))
theorem cr_sortTI {X : Cx} : CallR X (.builtin "sorted") (rSortT X.K) := by
  intro pins s σ H vs us Q I r h
  obtain ⟨a, ns, rfl, hs, q⟩ := h
  obtain ⟨its, rv, hl, hz⟩ := I.tuple hs
  rw [Vals.ref1 r]
  have hi := rv.ints
  refine sorted_tup hl (by rw [← rv.length]; exact hz) hi fun out h1 h2 => ?_
  obtain ⟨k1, k2, k3⟩ := SrtO.ints_out hi h1 h2
  obtain ⟨ep, he'⟩ := sortedAll_at s.heap its out.toArray
  have hlen : ((out.map SrtO.iv).map V.int).length ≤ sizeLine := by
    have := k2.length_eq
    simp only [List.length_map] at this hz ⊢
    omega
  exact ⟨.ref _, upd H (s.heap.objs.size + 1) (.lst ((out.map SrtO.iv).map V.int)), I.laid (t' := s.toks) (fun _ _ e => sortedAll_old e) (Nat.le_succ _) ⟨hlen, out, ep, vals_of_ints k1, he'⟩, rfl, q _ _ k2 (I.hok.fresh (Nat.le_succ _))⟩
end MB

set_option maxHeartbeats 4000000
namespace MB
open PySem PySem.Spec PyProof.Rows L2
/-! ### a tuple times a number from 1 on -/
theorem tuple_mul1 (l : Addr) (items : Array Value) (n : Nat) (dd : Option Addr) (sl : Array (Option Value)) (u : Tok) :
    Meets (Builtin.«tuple.__mul__» ⟨[.ref l, .int 1 u], []⟩) (fun _ R s => s.heap.get? l = some { cls := .type "tuple", dict := dd, data := .seq items n, slots := sl } ∧ R (.ok (.ret (Value.ref l))) s) :=
  .of_wp fun prog w A R s h => by
    obtain ⟨hp, g, d, tk, os⟩ := s
    obtain ⟨hl, h⟩ := h
    have f1 := AutoSeq1.idx_int
    have c1 : (items.isEmpty || ((1 : Int) == 1)) = true := by simp
    wp_walk using wpAny_loadPart' hl
    exact ⟨_, rfl, h⟩
def rRepQ (K : PySem.W.Frag) : R2 := fun x y H Q => ∃ l k xs, x = .ref l ∧ y = .int k ∧ SqT K H l xs ∧ xs ≠ [] ∧ 1 ≤ k ∧ k ≤ 1000 ∧ xs.length ≤ 1000 ∧ (k = 1 → Q (.ref l) H) ∧ ∀ p, H p = none → Q (.ref p) (upd H p (.tup (List.replicate k.toNat xs).flatten))
theorem op_repQ {X : Cx} : OpR X (binaryOp .Mult) (rRepQ X.K) := by
  intro pins s σ H x y v u Q I rx ry h
  obtain ⟨l, k, xs, rfl, rfl, hT, hne, g1, g2, hz, q1, q⟩ := h
  by_cases hk : k = 1
  · subst hk
    cases rx
    obtain ⟨t, rfl⟩ := ry
    obtain ⟨its, r, ⟨⟨cls, dd, data, sl⟩, ho, hc, n, hd⟩, hs⟩ := I.tuple hT
    simp only at hc hd
    subst hc hd
    refine wpAny_binaryOp_repeat_ref (T := "tuple") (U := "int") (by decide) ⟨_, ho, rfl⟩ (fun s' => typeIs_int s' 1 t) noFill_tuple_mul F.fills_int_mul F.slot_int_rmul repeat_tuple F.slot_int_index.lookup (call_meets F.slot_int_rmul (typeIs_int s 1 t) F.entry_int_rmul (F.args_int_rmul_2 _ _) (int_rmul_tuple 1 t l its.toArray n dd sl) ⟨ho, rfl, ⟨_, ho, rfl⟩, ?_⟩)
    exact call_meets F.slot_tuple_mul ⟨_, ho, rfl⟩ F.entry_tuple_mul (F.args_tuple_mul_2 _ _) (tuple_mul1 l its.toArray n dd sl t) ⟨ho, .ref l, H, I, rfl, q1 rfl⟩
  · exact op_repT pins s σ H _ _ v u Q I rx ry ⟨l, k, xs, rfl, rfl, hT, hne, by omega, g2, hz, q⟩
theorem rep_read {K : PySem.W.Frag} {H : Hp} {l : Addr} {k : Int} {xs : List V} {Q : VK} (h : SqT K H l xs) (hn : xs ≠ []) (h1 : 1 ≤ k) (h2 : k ≤ 1000) (hz : xs.length ≤ 1000) (q : ∀ p H', Same H H' → SqT K H' p (List.replicate k.toNat xs).flatten → Q (.ref p) H') : rRepQ K (.ref l) (.int k) H Q := by
  refine ⟨l, k, xs, rfl, rfl, h, hn, h1, h2, hz, fun e => q l H (Same.refl H) ?_, fun p np => q p _ (same_upd np) (.inl (.inl upd_same))⟩
  rw [e]
  simpa using h
end MB

set_option maxHeartbeats 4000000
namespace MB
open PySem PySem.Spec PyProof.Rows L2
/-! ### a tuple from its end: t[::-1] -/
theorem adj_rev (n : Nat) : Builtin.Slice.sliceAdjust none none (-1) (n : Int) = ((n : Int) - 1, -1) := rfl
theorem places_rev (n : Nat) : Builtin.Slice.slicePlaces ((n : Int) - 1) (-1) (-1) = n := by
  unfold Builtin.Slice.slicePlaces
  have h1 : ¬ ((-1 : Int) > 0) := by omega
  simp only [h1, if_false]
  have h2 : -(-1 : Int) = 1 := by decide
  rw [h2, Int.ediv_one]
  split <;> omega
theorem pick_rev (xs : Array Value) : ((List.range xs.size).filterMap fun (k : Nat) => xs[(((xs.size : Int) - 1) + (k : Int) * (-1)).toNat]?).toArray = xs.toList.reverse.toArray := by
  congr 1
  have key : ∀ k, k < xs.size → xs[(((xs.size : Int) - 1) + (k : Int) * (-1)).toNat]? = some (xs.toList.reverse.getD k .none) := fun k hk => by
    have e : (((xs.size : Int) - 1) + (k : Int) * (-1)).toNat = xs.size - 1 - k := by omega
    have hl : k < xs.toList.reverse.length := by simpa using hk
    rw [e, List.getD_eq_getElem?_getD, List.getElem?_eq_getElem hl, Option.getD_some, List.getElem_reverse]
    rw [Array.getElem?_eq_getElem (by omega)]
    simp
  have h2 : (List.range xs.size).filterMap (fun (k : Nat) => xs[(((xs.size : Int) - 1) + (k : Int) * (-1)).toNat]?) = (List.range xs.size).map fun k => xs.toList.reverse.getD k .none := by
    have aux : ∀ (l : List Nat), (∀ k, k ∈ l → k < xs.size) → l.filterMap (fun (k : Nat) => xs[(((xs.size : Int) - 1) + (k : Int) * (-1)).toNat]?) = l.map fun k => xs.toList.reverse.getD k .none := by
      intro l
      induction l with
      | nil => intro _; rfl
      | cons a l ih =>
        intro h
        rw [List.filterMap_cons, key a (h a (List.mem_cons_self ..)), ih fun k hk => h k (List.mem_cons_of_mem _ hk)]
        rfl
    exact aux _ fun k hk => List.mem_range.mp hk
  rw [h2]
  refine List.ext_getElem (by simp) fun k h3 h4 => ?_
  rw [List.getElem_map, List.getElem_range, List.getD_eq_getElem?_getD, List.getElem?_eq_getElem h4, Option.getD_some]
section
variable {prog : Program} {w : World} {A : Around} {E : Value → Shared → Prop} {s : Shared}
theorem applied_rev {sl : Addr} {vl vu vs : Value} {n : Nat} {Q : Int × Int × Nat → Shared → Prop} (hs : s.heap.IsSliceOf sl vl vu vs) (pl : IsPart vl none) (pu : IsPart vu none) (ps : IsPart vs (some (-1)))
    (h : Q ((n : Int) - 1, -1, n) s) : wpAny (model prog w) A (Builtin.Slice.sliceApplied (.ref sl) (pure (n : Int))) Q E s := by
  obtain ⟨os, hos, hcs, hds⟩ := id hs
  unfold Builtin.Slice.sliceApplied Builtin.Slice.sliceFields
  refine wpAny_bind (wpAny_bind (wpAny_field hos hds (x := vl) rfl (wpAny_bind (wpAny_field hos hds (x := vu) rfl (wpAny_bind (wpAny_field hos hds (x := vs) rfl (wpAny_pure ?_)))))))
  refine wpAny_bind (HT.slicePart_ ps ?_)
  show wpAny _ _ (if ((-1 : Int) == 0) = true then _ else _) _ _ s
  rw [if_neg (by decide)]
  refine wpAny_bind (HT.slicePart_ pl (wpAny_bind (HT.slicePart_ pu (wpAny_bind (wpAny_pure ?_)))))
  show wpAny _ _ (match Builtin.Slice.sliceAdjust none none (-1) (n : Int) with | (lo, hi) => pure (lo, (-1 : Int), Builtin.Slice.slicePlaces lo hi (-1))) _ _ s
  rw [adj_rev]
  show wpAny _ _ (pure ((n : Int) - 1, (-1 : Int), Builtin.Slice.slicePlaces ((n : Int) - 1) (-1) (-1))) _ _ s
  rw [places_rev]
  exact wpAny_pure h
theorem getItem_rev {t sl : Addr} {items : Array Value} {vl vu vs : Value} {Q : Value → Shared → Prop} (ht : IsTup s.heap t items) (hs : s.heap.IsSliceOf sl vl vu vs) (pl : IsPart vl none) (pu : IsPart vu none) (ps : IsPart vs (some (-1)))
    (h : Q (.ref s.heap.objs.size) { s with heap := s.heap.push { cls := .type "tuple", data := .seq items.toList.reverse.toArray } }) (hsz : items.size ≤ sizeLine) : wpAny (model prog w) A (getItem (.ref t) (.ref sl)) Q E s := by
  have hok : sizeOk (.seq items.toList.reverse.toArray) := by
    show items.toList.reverse.toArray.size ≤ sizeLine
    simpa using hsz
  obtain ⟨os, hos, hcs, hds⟩ := id hs
  have hTs : s.TypeIs (.ref sl) "slice" := ⟨os, hos, hcs⟩
  unfold getItem
  (try with_reducible refine wpAny_holding ?_)
  (first | refine wpAny_bind (wpAny_pure ?_) | skip)
  refine wpAny_bind (wpAny_sequenceKey ht.typeIs (by decide) (wpAny_bind (wpAny_callSpecial?_slot (name := Str.ofString "__getitem__") ht.typeIs PyProof.Rows.slot_tuple_getitem (wpAny_call_entry PyProof.Rows.slot_tuple_getitem ht.typeIs entry_tuple_getitem ?_ (args_tuple_getitem _ _)))))
  show wpAny _ _ (Builtin.Tuple.tupleItemsOf (.ref t) >>= _) _ _ s
  refine wpAny_bind (tupleItemsOf_ ht (wpAny_bind (wpAny_typeOf hTs ?_)))
  rw [if_pos (by decide)]
  refine wpAny_bind (applied_rev hs pl pu ps ?_)
  show wpAny _ _ (if (((items.size : Int) - 1) == 0 && (-1 : Int) == 1 && items.size == items.size) = true then _ else _) _ _ s
  rw [if_neg (by simp), pick_rev]
  exact wpAny_bind (m := Builtin.Tuple.tupleExact _) (wpAny_newObj_type (wpAny_pure ⟨_, rfl, wpAny_pure h⟩) hok)
end
def tRevT (K : PySem.W.Frag) (te : TE) : TE := fun σ H Q => te σ H fun x H1 => ∃ a xs, x = .ref a ∧ SqT K H1 a xs ∧ ∀ p, H1 p = none → Q (.ref p) (upd H1 p (.tup xs.reverse))
theorem pe_revT {X : Cx} {K : PySem.W.Frag} (hK : X.K = K) {e : Expr} {te : TE} {k : Nat} {p1 p2 p3 pos : PySem.Pos} (he : PE X e te) : PE X (.Subscript e (.Slice none none (some (.UnaryOp .USub (.Constant (.int 1) k p1) p2)) p3) pos) (tRevT K te) := by
  subst hK
  refine ⟨fun pins s σ H Q I h => ?_⟩
  refine Subscript_ (thn (he.run pins s σ H _ I h) fun v s1 ⟨x, H1, I1, r1, q1⟩ => ?_)
  obtain ⟨a, xs, rfl, hx, q⟩ := q1
  cases r1
  have hst : PO X (some (.UnaryOp .USub (.Constant (.int 1) k p1) p2)) (tPart (tUn (rU fun i => .int (-i)) (tC (.int 1)))) := po_some (pe_un un_neg pe_int)
  refine wpAny_Slice (thn (po_none.run pins s1 σ H1 (fun o H2 => o = none ∧ H2 = H1) I1 ⟨rfl, rfl⟩) fun vl s2 ⟨lo, H2, I2, pl, elo, eH⟩ => ?_)
  cases elo; cases eH
  refine thn (po_none.run pins s2 σ H1 (fun o H3 => o = none ∧ H3 = H1) I2 ⟨rfl, rfl⟩) fun vu s3 ⟨hi, H3, I3, pu, ehi, eH⟩ => ?_
  cases ehi; cases eH
  refine thn (hst.run pins s3 σ H1 (fun o H4 => o = some (-1) ∧ H4 = H1) I3 ⟨1, rfl, -1, rfl, rfl, rfl⟩) fun vs s4 ⟨st, H4, I4, ps, est, eH⟩ => ?_
  cases est; cases eH
  have I5 : Inv X pins σ H1 { s4 with heap := s4.heap.push { cls := .type "slice", data := .fields #[vl, vu, vs] } } := I4.kept (t' := s4.toks) fun b ob e => Heap.get?_push_of_some _ e
  obtain ⟨its, r, ht, hz⟩ := I5.tuple hx
  have hlen := r.length
  show wpAny (model X.prog X.w) X.A (subscriptTail e (.Slice none none (some (.UnaryOp .USub (.Constant (.int 1) k p1) p2)) p3) (.ref a) (.ref s4.heap.objs.size)) (EP X pins σ Q) X.xe { s4 with heap := s4.heap.push { cls := .type "slice", data := .fields #[vl, vu, vs] } }
  refine tail_any (ops := [.ref a, .ref s4.heap.objs.size]) ht.typeIs (PyProof.Rows.slot_tuple_getitem.lookup) ?_ (by with_unfolding_all rfl)
  refine getItem_rev ht (Heap.IsSliceOf.new _ vl vu vs) pl pu ps ?_ (by rw [List.size_toArray]; omega)
  refine ⟨.ref _, _, I5.laid (t' := s4.toks) (o := .tup xs.reverse) (fun b ob e => Heap.get?_push_of_some _ e) (Nat.le_refl _) ?_, rfl, q _ (I5.hok.fresh (Nat.le_refl _))⟩
  exact ⟨by rw [List.length_reverse]; exact hz, its.reverse, r.reverse, IsTup.new _ _⟩
end MB

set_option maxHeartbeats 4000000
namespace MB
open PySem PySem.Spec PyProof.Rows L2
/-! ### a body whose first statement never ends in order -/
theorem pss_stop {X : Cx} {st : Stmt} {rest : List Stmt} {t : TS} (h1 : PS X st t) : PSs X (st :: rest) (fun D σ H => t { D with nx := fun _ _ => False } σ H) := by
  refine ⟨fun pins s σ H D I h => ?_⟩
  refine wpAny_execs_cons (thn (h1.run pins s σ H { D with nx := fun _ _ => False } I h) fun f s1 q => ?_)
  cases f with
  | next =>
    obtain ⟨_, _, _, q⟩ := q
    exact q.elim
  | ret v => exact q
  | brk => exact q
  | cont => exact q
/-! ### texts of data are texts -/
theorem strOk_of (s : String) : PyData.strOk (Str.ofString s) = true := by
  rw [Str.ofString_eq_toList]
  unfold PyData.strOk
  rw [← Array.all_toList, List.all_eq_true]
  intro c hc
  obtain ⟨z, _, rfl⟩ := List.mem_map.mp hc
  refine decide_eq_true ?_
  have h := z.valid
  have e : z.toNat = z.val.toNat := rfl
  rcases h with h | h
  · exact Nat.lt_trans (show z.toNat < 0xd800 from h) (by decide)
  · exact h.2
theorem strOk_app {a b : Str} (h1 : PyData.strOk a = true) (h2 : PyData.strOk b = true) : PyData.strOk (a ++ b) = true := by
  show (a.cps ++ b.cps).all _ = true
  rw [Array.all_append]
  rw [Bool.and_eq_true]
  exact ⟨h1, h2⟩
theorem strOk_join {sep : Str} (hs : PyData.strOk sep = true) : ∀ {ts : List Str}, (∀ t, t ∈ ts → PyData.strOk t = true) → PyData.strOk (Str.join sep ts) = true
  | [], _ => by show PyData.strOk Str.empty = true; decide +kernel
  | [x], h => h x (List.mem_cons_self ..)
  | x :: y :: r, h => by
    show PyData.strOk (x ++ sep ++ Str.join sep (y :: r)) = true
    exact strOk_app (strOk_app (h x (List.mem_cons_self ..)) hs) (strOk_join hs fun t ht => h t (List.mem_cons_of_mem _ ht))
theorem strOk_from : ∀ {ts : List Str} {k : Nat} {acc : Str}, PyData.strOk acc = true → (∀ t, t ∈ ts → PyData.strOk t = true) → PyData.strOk (textFrom k acc ts) = true
  | [], _, _, h, _ => h
  | t :: r, k, acc, h, ht => by
    refine strOk_from (ts := r) (k := k + 1) (acc := acc ++ (if k > 0 then ", " else "" : String) ++ t) (strOk_app (strOk_app h (strOk_of _)) (ht t (List.mem_cons_self ..))) fun x hx => ht x (List.mem_cons_of_mem _ hx)
theorem k_reprD {X : Cx} {K : PySem.W.Frag} (e : X.K = K) (hgd : X.A.guards = some []) (hu : X.A.units + 64 < cLine) : CallR X (.builtin "repr") (rReprD K) := by
  rw [← e]; exact call_reprD hgd hu
def SOk (d : PyData) : Prop := PyData.strOk d.shown = true
theorem shownAll_map : ∀ ds : List PyData, PyData.shownAll ds = ds.map PyData.shown
  | [] => rfl
  | d :: ds => by simp only [PyData.shownAll, List.map_cons, shownAll_map ds]
theorem SOk.int {i : Int} : SOk (.int i) := by unfold SOk; simp only [PyData.shown]; exact strOk_of _
theorem SOk.none : SOk .none := by unfold SOk; simp only [PyData.shown]; exact strOk_of _
theorem SOk.bool {b : Bool} : SOk (.bool b) := by unfold SOk; simp only [PyData.shown]; cases b <;> exact strOk_of _
theorem SOk.tup {ds : List PyData} (h : ∀ d, d ∈ ds → SOk d) : SOk (.tuple ds) := by
  unfold SOk
  simp only [PyData.shown]
  rw [shownAll_map]
  unfold tupleText
  refine strOk_app (strOk_app (strOk_of _) (strOk_join (strOk_of _) fun t ht => ?_)) (strOk_of _)
  obtain ⟨d, hd, rfl⟩ := List.mem_map.mp ht
  exact h d hd
theorem SOk.lst {ds : List PyData} (h : ∀ d, d ∈ ds → SOk d) : SOk (.list ds) := by
  unfold SOk
  simp only [PyData.shown]
  rw [shownAll_map]
  unfold listText
  refine strOk_app (strOk_from (strOk_of _) fun t ht => ?_) (strOk_of _)
  obtain ⟨d, hd, rfl⟩ := List.mem_map.mp ht
  exact h d hd
theorem SOk.ints {ns : List Int} : ∀ d, d ∈ ns.map PyData.int → SOk d := fun d hd => by
  obtain ⟨i, _, rfl⟩ := List.mem_map.mp hd
  exact .int
theorem SOk.dic1 {x : Str} {d : PyData} (hx : SOk (.str x)) (h : SOk d) : SOk (.dict [(.str x, d)]) := by
  unfold SOk at *
  simp only [PyData.shown, PyData.shownKv] at *
  unfold dictText
  exact strOk_app (strOk_app (strOk_of _) (strOk_join (strOk_of _) fun t ht => by
    rw [List.mem_singleton.mp ht]
    exact strOk_app (strOk_app hx (strOk_of _)) h)) (strOk_of _)
theorem Sh.str {x : Str} {k : Nat} (h : PyData.strOk x = true) : Sh k (.str x) := ⟨by simp only [PyData.canLay0]; exact h, by simp [PyData.depth]⟩
end MB

namespace MB
/-! `in` and `not in` of deep lists: HandS.Deep -/
end MB

set_option maxHeartbeats 4000000
namespace MB
open PySem PySem.Spec PyProof.Rows L2
/-! ### comprehensions with two clauses: the items by their data -/
/-- the list under way -/
def Acc (K : PySem.W.Frag) (H1 H : Hp) (D : Addr) (ds : List PyData) : Prop := Same H1 H ∧ ∃ acc, H D = some (.lst acc) ∧ DpAll K H acc ds
theorem lc2_in {K : PySem.W.Frag} {J : It} {n : Nat} {G : Hp → Prop} {Y : Nat → Hp → V → Hp → Prop} (w : Walk J n G Y) {g : TG} {tt : TT} {te : TE} {vs : List Nat} {σ : L2.St} {H1 H4 : Hp} {D : Addr} {Nx : Hp → Prop}
    (pre ds : List PyData) (hl : ds.length = n) (hp : ∀ d, d ∈ pre → Tf d) (ht : ∀ d, d ∈ ds → Tf d) (hn : pre.length + n ≤ 100000) (hD : H1 D = none) (h4 : Acc K H1 H4 D pre) (hG : ∀ H, Same H1 H → G H)
    (hs : ∀ i x H H', i < n → Same H1 H → Y i H x H' → ∀ d, ds[i]? = some d → ∀ R : V → Hp → Prop, (∀ y H5, Same H H5 → Dp K H5 y d → R y H5) →
      g x (wipe σ vs) H' fun σ2 H2 => wipe σ2 vs = wipe σ vs ∧ tt σ2 H2 fun b H3 => b = true ∧ te σ2 H3 R)
    (hN : ∀ H, Acc K H1 H D (pre ++ ds) → Nx H)
    (mg : ∀ x σ' H' (Q Q' : L2.St → Hp → Prop), (∀ a b, Q a b → Q' a b) → g x σ' H' Q → g x σ' H' Q') (mt : ∀ σ' H' (Q Q' : Bool → Hp → Prop), (∀ a b, Q a b → Q' a b) → tt σ' H' Q → tt σ' H' Q') :
    ∃ W : Nat → Nat → Hp → Prop, (∃ m, W 0 m H4) ∧ ∀ j k H, W j k H →
      (J.stop j H ∧ Nx H) ∨ (J.go j H ∧ ∃ Nx1 : Hp → Prop, (∀ H', Nx1 H' → ∃ k', k' < k ∧ W (j + 1) k' H') ∧ ∀ x H', J.yld j H x H' → g x (wipe σ vs) H' fun σ3 H5 => wipe σ3 vs = wipe σ vs ∧ tt σ3 H5 fun b H6 =>
        if b = true then te σ3 H6 fun y H7 => ∃ acc, H7 D = some (.lst acc) ∧ acc.length < sizeLine ∧ Nx1 (upd H7 D (.lst (acc ++ [y]))) else Nx1 H6) := by
  refine ⟨fun i m H => m = n - i ∧ i ≤ n ∧ Acc K H1 H D (pre ++ ds.take i), ⟨n, by simp, Nat.zero_le _, by simpa using h4⟩, ?_⟩
  rintro i m H ⟨rfl, hi, s1, acc, ha, hA⟩
  have q := hG H s1
  by_cases hlt : i < n
  · refine .inr ⟨w.goes i H hlt q, fun H' => Acc K H1 H' D (pre ++ ds.take (i + 1)), fun H' p' => ⟨n - (i + 1), by omega, rfl, hlt, p'⟩, fun x H' y => ?_⟩
    have hd' : ds[i]? = some ds[i] := List.getElem?_eq_getElem (by omega)
    have hlen := DpAll.len hA
    rw [List.length_append, List.length_take] at hlen
    refine mg _ _ _ _ _ ?_ (hs i x H H' hlt s1 (w.yields i H x H' hlt q y) ds[i] hd' (fun y H7 => ∃ acc, H7 D = some (.lst acc) ∧ acc.length < sizeLine ∧ Acc K H1 (upd H7 D (.lst (acc ++ [y]))) D (pre ++ ds.take (i + 1))) ?_)
    · rintro σ2 H2 ⟨e1, e2⟩
      refine ⟨e1, mt _ _ _ _ ?_ e2⟩
      rintro b H3 ⟨rfl, e3⟩
      exact iteT e3
    · intro y H5 s5 hy5
      refine ⟨acc, s5 _ _ ha, sz61 (by omega), Same.mut (s1.trans s5) hD, acc ++ [y], upd_same, ?_⟩
      have kp : Keep K H5 (upd H5 D (.lst (acc ++ [y]))) := But.keep But.upd (s5 _ _ ha)
      rw [List.take_add_one, hd', ← List.append_assoc]
      refine DpAll.keep kp (fun d h => ?_) (DpAll.append (DpAll.same s5 hA) (.cons hy5 .nil))
      rcases List.mem_append.mp h with h | h
      · rcases List.mem_append.mp h with h | h
        · exact hp d h
        · exact ht d (List.mem_of_mem_take h)
      · have e : d = ds[i] := by simpa using h
        rw [e]; exact ht _ (List.getElem_mem ..)
  · have e : i = n := by omega
    subst e
    rw [List.take_of_length_le (by omega)] at hA
    exact .inl ⟨w.stops H q, hN H ⟨s1, acc, ha, hA⟩⟩
theorem yesT {σ : L2.St} {H : Hp} {T N : Hp → Prop} (h : T H) : tYes σ H (fun b H3 => if b = true then T H3 else N H3) := by
  unfold tYes
  exact iteT h
/-- what the blocks before i give -/
def blks (f : Nat → List PyData) (i : Nat) : List PyData := (List.range i).flatMap f
theorem blks_succ (f : Nat → List PyData) (i : Nat) : blks f (i + 1) = blks f i ++ f i := by
  unfold blks
  rw [List.range_succ, List.flatMap_append]
  simp
theorem mem_blks {f : Nat → List PyData} {i : Nat} {d : PyData} (h : d ∈ blks f i) : ∃ j, j < i ∧ d ∈ f j := by
  unfold blks at h
  obtain ⟨j, hj, hd⟩ := List.mem_flatMap.mp h
  exact ⟨j, List.mem_range.mp hj, hd⟩
theorem lc2_out {K : PySem.W.Frag} {J : It} {n : Nat} {G : Hp → Prop} {Y : Nat → Hp → V → Hp → Prop} (w : Walk J n G Y) {g : TG} {tt : TT} {T : L2.St → Hp → (Hp → Prop) → Prop} {vs : List Nat} {σ : L2.St} {H1 : Hp} {D : Addr} {Qd : Hp → Prop}
    (f : Nat → List PyData) (hD : H1 D = none) (hG : ∀ H, Same H1 H → G H)
    (hs : ∀ i x H H', i < n → Acc K H1 H D (blks f i) → Y i H x H' → ∀ Nx : Hp → Prop, (∀ H, Acc K H1 H D (blks f i ++ f i) → Nx H) →
      g x (wipe σ vs) H' fun σ2 H2 => wipe σ2 vs = wipe σ vs ∧ tt σ2 H2 fun b H3 => if b = true then T σ2 H3 Nx else Nx H3)
    (hd : ∀ H acc, Same H1 H → H D = some (.lst acc) → DpAll K H acc (blks f n) → Qd H) :
    ∃ W : Nat → Nat → Hp → Prop, (∃ m, W 0 m (upd H1 D (.lst []))) ∧ ∀ i m H, W i m H →
      (J.stop i H ∧ Qd H) ∨ (J.go i H ∧ ∃ Nx : Hp → Prop, (∀ H', Nx H' → ∃ m', m' < m ∧ W (i + 1) m' H') ∧ ∀ x H', J.yld i H x H' → g x (wipe σ vs) H' fun σ2 H2 => wipe σ2 vs = wipe σ vs ∧ tt σ2 H2 fun b H3 =>
        if b = true then T σ2 H3 Nx else Nx H3) := by
  refine ⟨fun i m H => m = n - i ∧ i ≤ n ∧ Acc K H1 H D (blks f i), ⟨n, by simp, Nat.zero_le _, same_upd hD, [], upd_same, .nil⟩, ?_⟩
  rintro i m H ⟨rfl, hi, p⟩
  have q := hG H p.1
  by_cases hlt : i < n
  · exact .inr ⟨w.goes i H hlt q, fun H' => Acc K H1 H' D (blks f (i + 1)), fun H' p' => ⟨n - (i + 1), by omega, rfl, hlt, p'⟩, fun x H' y => hs i x H H' hlt p (w.yields i H x H' hlt q y) _ fun H2 a => by rw [blks_succ]; exact a⟩
  · have e : i = n := by omega
    subst e
    obtain ⟨s1, acc, ha, hA⟩ := p
    exact .inl ⟨w.stops H q, hd H acc s1 ha hA⟩
theorem lc_allW {K : PySem.W.Frag} {J : It} {n : Nat} {G : Hp → Prop} {Y : Nat → Hp → V → Hp → Prop} (w : Walk J n G Y) {g : TG} {tt : TT} {te : TE} {vs : List Nat} {σ : L2.St} {H1 : Hp} {D : Addr} {Qd : Hp → Prop}
    (ds : List PyData) (hl : ds.length = n) (ht : ∀ d, d ∈ ds → Tf d) (hn : n ≤ 90000) (hD : H1 D = none) (hG : ∀ H, Same H1 H → G H)
    (hs : ∀ i x H H', i < n → Same H1 H → Y i H x H' → ∀ d, ds[i]? = some d → ∀ R : V → Hp → Prop, (∀ y H4, Same H H4 → Dp K H4 y d → R y H4) →
      g x (wipe σ vs) H' fun σ2 H2 => wipe σ2 vs = wipe σ vs ∧ tt σ2 H2 fun b H3 => b = true ∧ te σ2 H3 R)
    (hd : ∀ H acc, Same H1 H → H D = some (.lst acc) → DpAll K H acc ds → Qd H)
    (mg : ∀ x σ' H' (Q Q' : L2.St → Hp → Prop), (∀ a b, Q a b → Q' a b) → g x σ' H' Q → g x σ' H' Q') (mt : ∀ σ' H' (Q Q' : Bool → Hp → Prop), (∀ a b, Q a b → Q' a b) → tt σ' H' Q → tt σ' H' Q') :
    ∃ W : Nat → Nat → Hp → Prop, (∃ m, W 0 m (upd H1 D (.lst []))) ∧ ∀ i m H, W i m H →
      (J.stop i H ∧ Qd H) ∨ (J.go i H ∧ ∃ Nx : Hp → Prop, (∀ H', Nx H' → ∃ m', m' < m ∧ W (i + 1) m' H') ∧ ∀ x H', J.yld i H x H' → g x (wipe σ vs) H' fun σ2 H2 => wipe σ2 vs = wipe σ vs ∧ tt σ2 H2 fun b H3 =>
        if b = true then te σ2 H3 fun y H4 => ∃ acc, H4 D = some (.lst acc) ∧ acc.length < sizeLine ∧ Nx (upd H4 D (.lst (acc ++ [y]))) else Nx H3) := by
  refine lc_it w (fun i H => Same H1 H ∧ ∃ acc, H D = some (.lst acc) ∧ DpAll K H acc (ds.take i)) ⟨same_upd hD, [], upd_same, .nil⟩ (fun i H _ h => hG H h.1) ?_ ?_
  · rintro i x H H' hi ⟨s1, acc, ha, hA⟩ hy
    have hd' : ds[i]? = some ds[i] := List.getElem?_eq_getElem (by omega)
    have hlen := DpAll.len hA
    rw [List.length_take] at hlen
    refine mg _ _ _ _ _ ?_ (hs i x H H' hi s1 hy ds[i] hd' (fun y H4 => ∃ acc, H4 D = some (.lst acc) ∧ acc.length < sizeLine ∧ (Same H1 (upd H4 D (.lst (acc ++ [y]))) ∧ ∃ acc', (upd H4 D (.lst (acc ++ [y]))) D = some (.lst acc') ∧ DpAll K (upd H4 D (.lst (acc ++ [y]))) acc' (ds.take (i + 1)))) ?_)
    · rintro σ2 H2 ⟨h1, h2⟩
      refine ⟨h1, mt _ _ _ _ ?_ h2⟩
      rintro b H3 ⟨rfl, h3⟩
      exact iteT h3
    · intro y H4 s4 hy4
      refine ⟨acc, s4 _ _ ha, sz61 (by omega), Same.mut (s1.trans s4) hD, acc ++ [y], upd_same, ?_⟩
      have kp : Keep K H4 (upd H4 D (.lst (acc ++ [y]))) := But.keep But.upd (s4 _ _ ha)
      rw [List.take_add_one, hd']
      refine DpAll.keep kp (fun d h => ?_) (DpAll.append (DpAll.same s4 hA) (.cons hy4 .nil))
      rcases List.mem_append.mp h with h | h
      · exact ht d (List.mem_of_mem_take h)
      · have e : d = ds[i] := by simpa using h
        rw [e]; exact ht _ (List.getElem_mem ..)
  · rintro H ⟨s1, acc, ha, hA⟩
    rw [List.take_of_length_le (by omega)] at hA
    exact hd H acc s1 ha hA

/-- enumerate in a second clause -/
theorem k_enumT {X : Cx} {K : PySem.W.Frag} (hK : X.K = K) {e : Expr} {ta : TA} {p pos tpos : PySem.Pos} {elts : List Expr} {kk : Nat} (hg : Gl X "enumerate") (hm : X.mg "enumerate" = none) (ha : PA X [e] ta) (hs : starEach [e] X.env = [(false, eval e X.env)] := by rfl) :
    PI X (.Tuple elts kk tpos) (.Call (.Name "enumerate" p) [e] [] pos) (iEnumT K ta) := by
  subst hK
  exact pi_enumT hg hm ha hs
end MB

set_option maxHeartbeats 4000000
namespace MB
open PySem PySem.Spec PyProof.Rows L2
/-- list(range(n)) -/
def tLRng (te : TE) : TE := fun σ H Q => tCons te tNil σ H fun vs H1 => ∃ x, vs = [x] ∧ ∃ n : Nat, x = .int (n : Int) ∧ n ≤ 1000 ∧ ∀ l, H1 l = none → Q (.ref l) (upd H1 l (.lst ((List.range n).map fun i => V.int ((i : Nat) : Int))))
theorem rng_small : ∀ n : Nat, n < 1001 → Builtin.Range.small 0 (n:Int) 1 = true ∧ Builtin.Range.rangeSize 0 (n : Int) 1 = (n : Int) := by decide +kernel
theorem vals_rng' : ∀ (its : List Value) (k : Nat), (∀ (j : Nat) (v : Value), its[j]? = some v → ∃ t, v = Value.int ((k + j : Nat) : Int) t) → Vals ((List.range' k its.length).map fun i => V.int ((i : Nat) : Int)) its
  | [], _, _ => .nil
  | u :: its, k, h => by
    rw [List.length_cons, List.range'_succ, List.map_cons]
    refine .cons (h 0 u rfl) (vals_rng' its (k + 1) fun j v hj => ?_)
    obtain ⟨t, e⟩ := h (j + 1) v hj
    exact ⟨t, by rw [e]; congr 1; omega⟩
theorem vals_rng {its : List Value} {n : Nat} (hn : its.length = n) (h : ∀ (j : Nat) (v : Value), its[j]? = some v → ∃ t, v = Value.int (0 + (j : Int) * 1) t) : Vals ((List.range n).map fun i => V.int ((i : Nat) : Int)) its := by
  subst hn
  rw [List.range_eq_range']
  exact vals_rng' its 0 fun j v hj => by
    obtain ⟨t, e⟩ := h j v hj
    exact ⟨t, by rw [e]; congr 1; omega⟩
theorem pe_lrng {X : Cx} {e : Expr} {te : TE} {p1 p2 p3 p4 : PySem.Pos} (hc : X.calm = true) (gl : Gl X "list") (ml : X.mg "list" = none) (gr : Gl X "range") (mr : X.mg "range" = none) (he : PE X e te)
    (s1 : starEach [e] X.env = (false, eval e X.env) :: starEach [] X.env := by rfl) (s2 : starEach [.Call (.Name "range" p2) [e] [] p3] X.env = (false, eval (.Call (.Name "range" p2) [e] [] p3) X.env) :: starEach [] X.env := by rfl)
    (b1 : ((backTo p3 (starEach [] X.env)).any fun x => x.1) = false := by rfl) (b2 : ((backTo p4 (starEach [] X.env)).any fun x => x.1) = false := by rfl) :
    PE X (.Call (.Name "list" p1) [.Call (.Name "range" p2) [e] [] p3] [] p4) (tLRng te) := by
  refine ⟨fun pins s σ H Q I h => ?_⟩
  refine wpAny_Call_Name_kw (ld_blt I gl ml (by decide +kernel : bootBuiltins (Str.ofString "list") = some (.type "list")) (callWith_type1 ?_ s2 b2) (by decide +kernel) (by decide +kernel))
  rw [s2]
  refine Calls.spliced_cons ?_
  refine wpAny_Call_Name_kw (ld_blt I gr mr (by decide +kernel : bootBuiltins (Str.ofString "range") = some (.type "range")) (callWith_type1 ?_ s1 b1) (by decide +kernel) (by decide +kernel))
  refine thn ((pa_cons he pa_nil s1).run p3 pins s σ H (fun vs H1 => ∃ x, vs = [x] ∧ ∃ n : Nat, x = .int (n : Int) ∧ n ≤ 1000 ∧ ∀ l, H1 l = none → Q (.ref l) (upd H1 l (.lst ((List.range n).map fun i => V.int ((i : Nat) : Int))))) I ?_) fun us s3 ⟨vs, H1, I1, r1, q1⟩ => ?_
  · exact h
  obtain ⟨x, rfl, n, rfl, hn, q⟩ := q1
  cases r1 with
  | cons a b =>
    cases b
    obtain ⟨tk, rfl⟩ := a
    refine call_range_1 ?_
    refine Calls.spliced_nil ?_
    have I2 : Inv X pins σ H1 { s3 with heap := s3.heap.push { cls := .type "range", data := .fields #[.int 0 s3.toks, .int n tk, .int 1 (s3.toks + 1)] }, toks := s3.toks + 1 + 1 } := I1.kept (t' := s3.toks + 1 + 1) fun b ob e => Heap.get?_push_of_some _ e
    obtain ⟨m1, m2⟩ := rng_small n (by omega)
    refine call_list_range (I2.ok.hd hc) (Heap.get?_push_size _ rfl) m1 m2 (by omega) fun h' tk' acc' c' hk hl hi => ?_
    refine ⟨.ref _, _, I2.laid (t' := tk') (o := .lst ((List.range n).map fun i => V.int ((i : Nat) : Int))) hk (Nat.le_refl _) ?_, rfl, q _ (I2.hok.fresh (Nat.le_refl _))⟩
    refine ⟨Nat.le_trans (show _ ≤ 1000 by simpa using hn) (by decide +kernel), acc'.toList, c', vals_rng (by rw [Array.length_toList]; exact hi.1) fun j v hj => hi.2 j v (by simpa using hj), by rw [Array.toArray_toList]; exact hl⟩
end MB

set_option maxHeartbeats 4000000
namespace MB
open PySem PySem.Spec PyProof.Rows L2
def topS (i : Nat) : Stmt := PySem.Challenge.pw_mergebudget_k75_whole_lifetimes_are_exac.main.body.getD i (.Pass ⟨0, 0, 0, 0⟩)
abbrev s_is_int : Stmt := topS 6
abbrev N_is_int : List Str := ["value"]
theorem sc_is_int : FnScope N_is_int ["value"] (defScope s_is_int) := ⟨rfl, rfl, rfl, by decide +kernel, rfl, by decide +kernel, by decide +kernel⟩
abbrev s_is_count : Stmt := topS 7
abbrev N_is_count : List Str := ["value"]
theorem sc_is_count : FnScope N_is_count ["value"] (defScope s_is_count) := ⟨rfl, rfl, rfl, by decide +kernel, rfl, by decide +kernel, by decide +kernel⟩
abbrev s_is_count_up_to : Stmt := topS 8
abbrev N_is_count_up_to : List Str := ["value", "most"]
theorem sc_is_count_up_to : FnScope N_is_count_up_to ["value", "most"] (defScope s_is_count_up_to) := ⟨rfl, rfl, rfl, by decide +kernel, rfl, by decide +kernel, by decide +kernel⟩
abbrev s_check_budgets : Stmt := topS 9
abbrev N_check_budgets : List Str := ["k", "c", "most", "budget"]
theorem sc_check_budgets : FnScope N_check_budgets ["k", "c", "most"] (defScope s_check_budgets) := ⟨rfl, rfl, rfl, by decide +kernel, rfl, by decide +kernel, by decide +kernel⟩
abbrev s_is_state : Stmt := topS 11
abbrev N_is_state : List Str := ["value", "k", "c", "count"]
theorem sc_is_state : FnScope N_is_state ["value", "k", "c"] (defScope s_is_state) := ⟨rfl, rfl, rfl, by decide +kernel, rfl, by decide +kernel, by decide +kernel⟩
abbrev s_check_state : Stmt := topS 12
abbrev N_check_state : List Str := ["state", "k", "c"]
theorem sc_check_state : FnScope N_check_state ["state", "k", "c"] (defScope s_check_state) := ⟨rfl, rfl, rfl, by decide +kernel, rfl, by decide +kernel, by decide +kernel⟩
abbrev s_lifetime : Stmt := topS 13
abbrev N_lifetime : List Str := ["k", "c"]
theorem sc_lifetime : FnScope N_lifetime ["k", "c"] (defScope s_lifetime) := ⟨rfl, rfl, rfl, by decide +kernel, rfl, by decide +kernel, by decide +kernel⟩
abbrev s_choose : Stmt := topS 14
abbrev N_choose : List Str := ["n", "k", "result", "factor"]
theorem sc_choose : FnScope N_choose ["n", "k"] (defScope s_choose) := ⟨rfl, rfl, rfl, by decide +kernel, rfl, by decide +kernel, by decide +kernel⟩
abbrev s_remaining : Stmt := topS 15
abbrev N_remaining : List Str := ["state", "k", "c", "runs", "most", "flushes", "at", "worst"]
theorem sc_remaining : FnScope N_remaining ["state", "k", "c"] (defScope s_remaining) := ⟨rfl, rfl, rfl, by decide +kernel, rfl, by decide +kernel, by decide +kernel⟩
abbrev s_best_merge : Stmt := topS 16
abbrev N_best_merge : List Str := ["state", "k", "c", "fewest", "bounds", "merge", "kept"]
theorem sc_best_merge : FnScope N_best_merge ["state", "k", "c"] (defScope s_best_merge) := ⟨rfl, rfl, rfl, by decide +kernel, rfl, by decide +kernel, by decide +kernel⟩
abbrev s_L_s5_hand : Stmt := topS 18
abbrev N_L_s5_hand : List Str := ["_law_script", "_law_nth", "_law_cell", "_law_digits", "_law_mixed"]
theorem sc_L_s5_hand : FnScope N_L_s5_hand ["_law_script", "_law_nth"] (defScope s_L_s5_hand) := ⟨rfl, rfl, rfl, by decide +kernel, rfl, by decide +kernel, by decide +kernel⟩
abbrev s_L_s5_take : Stmt := topS 19
abbrev N_L_s5_take : List Str := ["_law_hand", "_law_size", "_law_digit", "_law_primes", "_law_prime", "_law_mixed", "_law_drawn"]
theorem sc_L_s5_take : FnScope N_L_s5_take ["_law_hand", "_law_size"] (defScope s_L_s5_take) := ⟨rfl, rfl, rfl, by decide +kernel, rfl, by decide +kernel, by decide +kernel⟩
abbrev s_L_s5_of : Stmt := topS 20
abbrev N_L_s5_of : List Str := ["_law_hand", "_law_options"]
theorem sc_L_s5_of : FnScope N_L_s5_of ["_law_hand", "_law_options"] (defScope s_L_s5_of) := ⟨rfl, rfl, rfl, by decide +kernel, rfl, by decide +kernel, by decide +kernel⟩
abbrev s_L_s5_after : Stmt := topS 21
abbrev N_L_s5_after : List Str := ["_law_levels", "_law_taken", "_law_top", "_law_element"]
theorem sc_L_s5_after : FnScope N_L_s5_after ["_law_levels", "_law_taken"] (defScope s_L_s5_after) := ⟨rfl, rfl, rfl, by decide +kernel, rfl, by decide +kernel, by decide +kernel⟩
abbrev s_L_s5_fits : Stmt := topS 22
abbrev N_L_s5_fits : List Str := ["_law_levels", "_law_room", "_law_wear", "_law_element"]
theorem sc_L_s5_fits : FnScope N_L_s5_fits ["_law_levels", "_law_room", "_law_wear"] (defScope s_L_s5_fits) := ⟨rfl, rfl, rfl, by decide +kernel, rfl, by decide +kernel, by decide +kernel⟩
abbrev s_L_s5_next : Stmt := topS 23
abbrev N_L_s5_next : List Str := ["_law_levels", "_law_room", "_law_wear", "_law_found", "_law_taken", "_law_after"]
theorem sc_L_s5_next : FnScope N_L_s5_next ["_law_levels", "_law_room", "_law_wear"] (defScope s_L_s5_next) := ⟨rfl, rfl, rfl, by decide +kernel, rfl, by decide +kernel, by decide +kernel⟩
abbrev s_L_s5_profile : Stmt := topS 24
abbrev N_L_s5_profile : List Str := ["_law_plan", "_law_stack", "_law_counts", "_law_profile", "_law_flush", "_law_taken", "_law_kept", "_law_members", "_law_run", "_law_member"]
theorem sc_L_s5_profile : FnScope N_L_s5_profile ["_law_plan"] (defScope s_L_s5_profile) := ⟨rfl, rfl, rfl, by decide +kernel, rfl, by decide +kernel, by decide +kernel⟩
abbrev s_L_s5_level : Stmt := topS 25
abbrev N_L_s5_level : List Str := ["_law_level", "_law_room", "_law_wear", "_law_longer", "_law_plan", "_law_levels", "_law_taken", "_law_after"]
theorem sc_L_s5_level : FnScope N_L_s5_level ["_law_level", "_law_room", "_law_wear"] (defScope s_L_s5_level) := ⟨rfl, rfl, rfl, by decide +kernel, rfl, by decide +kernel, by decide +kernel⟩
abbrev s_L_s5_followed : Stmt := topS 26
abbrev N_L_s5_followed : List Str := ["_law_room", "_law_wear", "_law_plan", "_law_levels", "_law_flush", "_law_taken"]
theorem sc_L_s5_followed : FnScope N_L_s5_followed ["_law_room", "_law_wear"] (defScope s_L_s5_followed) := ⟨rfl, rfl, rfl, by decide +kernel, rfl, by decide +kernel, by decide +kernel⟩
abbrev s_L_s5_right : Stmt := topS 27
abbrev N_L_s5_right : List Str := ["_law_room", "_law_wear", "_law_level", "_law_length", "_law_full", "_law_before", "_law_states", "_law_profile", "_law_plan", "_law_levels", "_law_written", "_law_runs"]
theorem sc_L_s5_right : FnScope N_L_s5_right ["_law_room", "_law_wear"] (defScope s_L_s5_right) := ⟨rfl, rfl, rfl, by decide +kernel, rfl, by decide +kernel, by decide +kernel⟩
abbrev s_law : Stmt := topS 28
abbrev N_law : List Str := ["_law_script", "_law_pairs", "_law_nth", "_law_hand", "_law_turn", "_law_room", "_law_wear"]
theorem sc_law : FnScope N_law ["_law_script"] (defScope s_law) := ⟨rfl, rfl, rfl, by decide +kernel, rfl, by decide +kernel, by decide +kernel⟩
set_option genInjectivity false in
set_option genSizeOfSpec false in
structure Tx (K : PySem.W.Frag) (mg : Str → Option Value) where
  a_is_int : Addr
  fd_is_int : FuncData
  f_is_int : Fun K "is_int" "is_int" s_is_int a_is_int fd_is_int
  g_is_int : mg "is_int" = some (.ref a_is_int)
  bd_is_int : Binds K fd_is_int ["value"] []
  a_is_count : Addr
  fd_is_count : FuncData
  f_is_count : Fun K "is_count" "is_count" s_is_count a_is_count fd_is_count
  g_is_count : mg "is_count" = some (.ref a_is_count)
  bd_is_count : Binds K fd_is_count ["value"] []
  a_is_count_up_to : Addr
  fd_is_count_up_to : FuncData
  f_is_count_up_to : Fun K "is_count_up_to" "is_count_up_to" s_is_count_up_to a_is_count_up_to fd_is_count_up_to
  g_is_count_up_to : mg "is_count_up_to" = some (.ref a_is_count_up_to)
  bd_is_count_up_to : Binds K fd_is_count_up_to ["value", "most"] []
  a_check_budgets : Addr
  fd_check_budgets : FuncData
  f_check_budgets : Fun K "check_budgets" "check_budgets" s_check_budgets a_check_budgets fd_check_budgets
  g_check_budgets : mg "check_budgets" = some (.ref a_check_budgets)
  bd_check_budgets : Binds K fd_check_budgets ["k", "c", "most"] []
  a_is_state : Addr
  fd_is_state : FuncData
  f_is_state : Fun K "is_state" "is_state" s_is_state a_is_state fd_is_state
  g_is_state : mg "is_state" = some (.ref a_is_state)
  bd_is_state : Binds K fd_is_state ["value", "k", "c"] []
  a_check_state : Addr
  fd_check_state : FuncData
  f_check_state : Fun K "check_state" "check_state" s_check_state a_check_state fd_check_state
  g_check_state : mg "check_state" = some (.ref a_check_state)
  bd_check_state : Binds K fd_check_state ["state", "k", "c"] []
  a_lifetime : Addr
  fd_lifetime : FuncData
  f_lifetime : Fun K "lifetime" "lifetime" s_lifetime a_lifetime fd_lifetime
  g_lifetime : mg "lifetime" = some (.ref a_lifetime)
  bd_lifetime : Binds K fd_lifetime ["k", "c"] []
  a_choose : Addr
  fd_choose : FuncData
  f_choose : Fun K "choose" "choose" s_choose a_choose fd_choose
  g_choose : mg "choose" = some (.ref a_choose)
  bd_choose : Binds K fd_choose ["n", "k"] []
  a_remaining : Addr
  fd_remaining : FuncData
  f_remaining : Fun K "remaining" "remaining" s_remaining a_remaining fd_remaining
  g_remaining : mg "remaining" = some (.ref a_remaining)
  bd_remaining : Binds K fd_remaining ["state", "k", "c"] []
  a_best_merge : Addr
  fd_best_merge : FuncData
  f_best_merge : Fun K "best_merge" "best_merge" s_best_merge a_best_merge fd_best_merge
  g_best_merge : mg "best_merge" = some (.ref a_best_merge)
  bd_best_merge : Binds K fd_best_merge ["state", "k", "c"] []
  a_L_s5_hand : Addr
  fd_L_s5_hand : FuncData
  f_L_s5_hand : Fun K "_law_s5_hand" "_law_s5_hand" s_L_s5_hand a_L_s5_hand fd_L_s5_hand
  g_L_s5_hand : mg "_law_s5_hand" = some (.ref a_L_s5_hand)
  bd_L_s5_hand : Binds K fd_L_s5_hand ["_law_script", "_law_nth"] []
  a_L_s5_take : Addr
  fd_L_s5_take : FuncData
  f_L_s5_take : Fun K "_law_s5_take" "_law_s5_take" s_L_s5_take a_L_s5_take fd_L_s5_take
  g_L_s5_take : mg "_law_s5_take" = some (.ref a_L_s5_take)
  bd_L_s5_take : Binds K fd_L_s5_take ["_law_hand", "_law_size"] []
  a_L_s5_of : Addr
  fd_L_s5_of : FuncData
  f_L_s5_of : Fun K "_law_s5_of" "_law_s5_of" s_L_s5_of a_L_s5_of fd_L_s5_of
  g_L_s5_of : mg "_law_s5_of" = some (.ref a_L_s5_of)
  bd_L_s5_of : Binds K fd_L_s5_of ["_law_hand", "_law_options"] []
  a_L_s5_after : Addr
  fd_L_s5_after : FuncData
  f_L_s5_after : Fun K "_law_s5_after" "_law_s5_after" s_L_s5_after a_L_s5_after fd_L_s5_after
  g_L_s5_after : mg "_law_s5_after" = some (.ref a_L_s5_after)
  bd_L_s5_after : Binds K fd_L_s5_after ["_law_levels", "_law_taken"] []
  a_L_s5_fits : Addr
  fd_L_s5_fits : FuncData
  f_L_s5_fits : Fun K "_law_s5_fits" "_law_s5_fits" s_L_s5_fits a_L_s5_fits fd_L_s5_fits
  g_L_s5_fits : mg "_law_s5_fits" = some (.ref a_L_s5_fits)
  bd_L_s5_fits : Binds K fd_L_s5_fits ["_law_levels", "_law_room", "_law_wear"] []
  a_L_s5_next : Addr
  fd_L_s5_next : FuncData
  f_L_s5_next : Fun K "_law_s5_next" "_law_s5_next" s_L_s5_next a_L_s5_next fd_L_s5_next
  g_L_s5_next : mg "_law_s5_next" = some (.ref a_L_s5_next)
  bd_L_s5_next : Binds K fd_L_s5_next ["_law_levels", "_law_room", "_law_wear"] []
  a_L_s5_profile : Addr
  fd_L_s5_profile : FuncData
  f_L_s5_profile : Fun K "_law_s5_profile" "_law_s5_profile" s_L_s5_profile a_L_s5_profile fd_L_s5_profile
  g_L_s5_profile : mg "_law_s5_profile" = some (.ref a_L_s5_profile)
  bd_L_s5_profile : Binds K fd_L_s5_profile ["_law_plan"] []
  a_L_s5_level : Addr
  fd_L_s5_level : FuncData
  f_L_s5_level : Fun K "_law_s5_level" "_law_s5_level" s_L_s5_level a_L_s5_level fd_L_s5_level
  g_L_s5_level : mg "_law_s5_level" = some (.ref a_L_s5_level)
  bd_L_s5_level : Binds K fd_L_s5_level ["_law_level", "_law_room", "_law_wear"] []
  a_L_s5_followed : Addr
  fd_L_s5_followed : FuncData
  f_L_s5_followed : Fun K "_law_s5_followed" "_law_s5_followed" s_L_s5_followed a_L_s5_followed fd_L_s5_followed
  g_L_s5_followed : mg "_law_s5_followed" = some (.ref a_L_s5_followed)
  bd_L_s5_followed : Binds K fd_L_s5_followed ["_law_room", "_law_wear"] []
  a_L_s5_right : Addr
  fd_L_s5_right : FuncData
  f_L_s5_right : Fun K "_law_s5_right" "_law_s5_right" s_L_s5_right a_L_s5_right fd_L_s5_right
  g_L_s5_right : mg "_law_s5_right" = some (.ref a_L_s5_right)
  bd_L_s5_right : Binds K fd_L_s5_right ["_law_room", "_law_wear"] []
  a_law : Addr
  fd_law : FuncData
  f_law : Fun K "law" "law" s_law a_law fd_law
  g_law : mg "law" = some (.ref a_law)
  bd_law : Binds K fd_law ["_law_script"] []
  b_isinstance : mg "isinstance" = none
  b_int : mg "int" = none
  b_bool : mg "bool" = none
  b_all : mg "all" = none
  b_tuple : mg "tuple" = none
  b_len : mg "len" = none
  b_range : mg "range" = none
  b_min : mg "min" = none
  b_max : mg "max" = none
  b_abs : mg "abs" = none
  b_enumerate : mg "enumerate" = none
  b_sorted : mg "sorted" = none
  b_set : mg "set" = none
  t_MOST_BUDGET : Tok
  c_MOST_BUDGET : mg "MOST_BUDGET" = some (.int (60) t_MOST_BUDGET)
section
variable {P : Program} {w : World} {K : PySem.W.Frag} {mg : Str → Option Value} {base : Heap}
def sp_is_int (K : PySem.W.Frag) : Sp := fun vs H Q _ => ∃ i : Int, vs = [.int i] ∧ Q (.bl true) H
theorem ok_is_int (TX : Tx K mg) : FnOk P w K mg base CX0 1 TX.a_is_int TX.fd_is_int ["value"] (sp_is_int K) := by
  refine TX.f_is_int.ok sc_is_int (fun vs H Q E h => ?_) (fun cdv A outer s H vs Q E hr h => ?_)
  · obtain ⟨i, rfl, _⟩ := h; rfl
  · obtain ⟨i, rfl, q⟩ := h
    refine ⟨_, (pss_one (ps_ret (pe_and (pe_callB (id := "isinstance") (k_isi (K := K) rfl) (by rfl) TX.b_isinstance (by decide +kernel) (pa_cons (pv 0) (pa_cons (pe_bltn (v := .ty "int") (by rfl) TX.b_int (by decide +kernel) rfl) pa_nil))) (pe_one (pe_not (pe_callB (id := "isinstance") (k_isi (K := K) rfl) (by rfl) TX.b_isinstance (by decide +kernel) (pa_cons (pv 0) (pa_cons (pe_bltn (v := .ty "bool") (by rfl) TX.b_bool (by decide +kernel) rfl) pa_nil)))))))), ?_⟩
    refine ⟨.int i, rfl, .int i, .ty "int", .type "int", .type "int", true, rfl, .ty _, .base (.int i), kit_ty (by decide +kernel), true, rfl, ?_⟩
    exact iteT ⟨.int i, rfl, .int i, .ty "bool", .type "int", .type "bool", false, rfl, .ty _, .base (.int i), kit_ty (by decide +kernel), false, rfl, q⟩
def sp_is_count (K : PySem.W.Frag) : Sp := fun vs H Q _ => ∃ i : Int, vs = [.int i] ∧ Q (.bl (decide (0 ≤ i))) H
theorem ok_is_count (TX : Tx K mg) : FnOk P w K mg base CX0 2 TX.a_is_count TX.fd_is_count ["value"] (sp_is_count K) := by
  refine TX.f_is_count.ok sc_is_count (fun vs H Q E h => ?_) (fun cdv A outer s H vs Q E hr h => ?_)
  · obtain ⟨i, rfl, _⟩ := h; rfl
  · obtain ⟨i, rfl, q⟩ := h
    refine ⟨_, (pss_one (ps_ret (pe_and (pe_call (ok_is_int TX) (hr.mono (by decide)) (by rfl) TX.g_is_int TX.f_is_int.kp TX.bd_is_int .nil pass0 (pa_cons (pv 0) pa_nil)) (pe_one (pe_cmpR op_ge (pv 0) pe_int (nomark _)))))), ?_⟩
    exact ⟨.int i, rfl, i, rfl, true, rfl, iteT ⟨.int i, rfl, i, 0, rfl, rfl, q⟩⟩
def sp_is_count_up_to (K : PySem.W.Frag) : Sp := fun vs H Q _ => ∃ i m : Int, vs = [.int i, .int m] ∧ Q (.bl (decide (0 ≤ i) && decide (i ≤ m))) H
theorem ok_is_count_up_to (TX : Tx K mg) : FnOk P w K mg base CX0 3 TX.a_is_count_up_to TX.fd_is_count_up_to ["value", "most"] (sp_is_count_up_to K) := by
  refine TX.f_is_count_up_to.ok sc_is_count_up_to (fun vs H Q E h => ?_) (fun cdv A outer s H vs Q E hr h => ?_)
  · obtain ⟨i, m, rfl, _⟩ := h; rfl
  · obtain ⟨i, m, rfl, q⟩ := h
    refine ⟨_, (pss_one (ps_ret (pe_and (pe_call (ok_is_count TX) (hr.mono (by decide)) (by rfl) TX.g_is_count TX.f_is_count.kp TX.bd_is_count .nil pass0 (pa_cons (pv 0) pa_nil)) (pe_one (pe_cmpR op_le (pv 0) (pv 1) (nomark _)))))), ?_⟩
    refine ⟨.int i, rfl, i, rfl, _, rfl, ?_⟩
    by_cases h0 : 0 ≤ i
    · rw [decide_eq_true h0] at q ⊢
      exact iteT ⟨.int i, rfl, .int m, rfl, i, m, rfl, rfl, q⟩
    · rw [decide_eq_false h0] at q ⊢
      exact iteF q
end
section
variable {P : Program} {w : World} {K : PySem.W.Frag} {mg : Str → Option Value} {base : Heap}
theorem min_nat (a b : Nat) : (if (b : Int) < (a : Int) then (b : Int) else (a : Int)) = ((min a b : Nat) : Int) := by
  by_cases h : b < a
  · rw [if_pos (by omega), Nat.min_eq_right (by omega)]
  · rw [if_neg (by omega), Nat.min_eq_left (by omega)]
theorem max_nat (a b : Nat) : (if (b : Int) > (a : Int) then (b : Int) else (a : Int)) = ((max a b : Nat) : Int) := by
  by_cases h : b > a
  · rw [if_pos (by omega), Nat.max_eq_right (by omega)]
  · rw [if_neg (by omega), Nat.max_eq_left (by omega)]
theorem bin_turn {n j : Nat} (h : j < n) : (bin n j : Int) * ((n : Int) - (j : Int)) / ((j : Int) + 1) = (bin n (j + 1) : Int) := by
  rw [← bin_div (n := n) (j := j) (by omega)]
  have e : ((n : Int) - (j : Int)) = ((n - j : Nat) : Int) := by omega
  rw [e]; norm_cast
def sp_choose (K : PySem.W.Frag) : Sp := fun vs H Q _ => ∃ n k : Nat, vs = [.int (n : Int), .int (k : Int)] ∧ k ≤ n ∧ k ≤ 64 ∧ n < 2 ^ 64 ∧ Q (.int (bin n k : Int)) H
theorem ok_choose (TX : Tx K mg) : FnOk P w K mg base CX0 1 TX.a_choose TX.fd_choose ["n", "k"] (sp_choose K) := by
  refine TX.f_choose.ok sc_choose (fun vs H Q E h => ?_) (fun cdv A outer s H vs Q E hr h => ?_)
  · obtain ⟨n, k, rfl, _⟩ := h; rfl
  · obtain ⟨n, k, rfl, hk, hk2, hn, q⟩ := h
    refine ⟨_, (pss_cons (ps_set (i := 2) sc_choose.nd rfl (.inl rfl) pe_int)
      (pss_cons (ps_for PassesOwn.never rfl (pi_range2 (by rfl) TX.b_range (pa_cons pe_int (pa_cons (pe_op op_add (pe_callB (id := "min") (call_min2 rfl) (by rfl) TX.b_min (by decide +kernel) (pa_cons (pv 1) (pa_cons (pe_op op_sub (pv 0) (pv 1)) pa_nil))) pe_int) pa_nil))) (pg_name (i := 3) sc_choose.nd rfl (.inl rfl))
        (pss_one (ps_set (i := 2) sc_choose.nd rfl (.inl rfl) (pe_op op_fdivW (pe_op op_mulW (pv 2) (pe_op op_sub (pe_op op_add (pv 0) pe_int) (pv 3))) (pv 3)))))
      (pss_one (ps_ret (pv 2))))), ?_⟩
    refine ⟨_, rfl, _, rfl, _, rfl, _, _, rfl, rfl, _, _, rfl, _, _, rfl, rfl, _, _, rfl, ?_⟩
    have em : (if (n : Int) - (k : Int) < (k : Int) then (n : Int) - (k : Int) else (k : Int)) = ((min k (n - k) : Nat) : Int) := by
      have := min_nat k (n - k)
      rwa [show ((n - k : Nat) : Int) = (n : Int) - (k : Int) by omega] at this
    rw [em]
    have hm1 : min k (n - k) ≤ 64 := by omega
    have hm2 : min k (n - k) ≤ n := by omega
    rw [← bin_min hk] at q
    generalize min k (n - k) = m at hm1 hm2 q
    refine ⟨⟨by decide, by decide, by omega, by omega⟩, for_range (lo := 1) (n := (((m : Nat) : Int) + 1 - 1).toNat) (fun i σ H' => H' = H ∧ ∃ y, σ = [some (.int (n : Int)), some (.int (k : Int)), some (.int (bin n i : Int)), y]) ⟨rfl, none, by rw [bin_zero]; rfl⟩ ?_ ?_⟩
    · rintro i σ H' hi ⟨rfl, y, rfl⟩
      refine ⟨_, rfl, _, rfl, _, _, rfl, rfl, _, rfl, _, _, rfl, rfl, _, _, rfl, rfl, ?_, _, rfl, _, _, rfl, rfl, ?_, rfl, some (.int (1 + (i : Int))), ?_⟩
      · have := bin_bits (n := n) (k := i) hn (by omega)
        exact wide_mul (a := 4097) (b := 65) (by omega) (by omega) (by decide) (by decide) (by decide)
      · exact wide_div (b := 8) (by omega) (by omega) (by decide) (by decide)
      · have e1 : (n : Int) + 1 - (1 + (i : Int)) = (n : Int) - (i : Int) := by omega
        have e2 : (1 + (i : Int)) = (i : Int) + 1 := by omega
        show [_, _, _, _] = [_, _, _, _]
        simp only [List.cons.injEq, Option.some.injEq, V.int.injEq, and_true, true_and]
        rw [e1, e2]
        exact bin_turn (by omega)
    · rintro σ H' ⟨rfl, y, rfl⟩
      refine ⟨_, rfl, ?_⟩
      rw [show (((m : Nat) : Int) + 1 - 1).toNat = m by omega]
      exact q
end
/-- the draws' list: a number not below 0, a seed, a count of at most n -/
def Pot (H : Hp) (a : Addr) (n : Int) : Prop := ∃ d s m : Int, H a = some (.lst [.int d, .int s, .int m]) ∧ 0 ≤ d ∧ 0 ≤ s ∧ s < 2 ^ 61 ∧ 0 ≤ m ∧ m ≤ n
theorem Pot.mono {H : Hp} {a : Addr} {n k : Int} (h : Pot H a n) (e : n ≤ k) : Pot H a k := by
  obtain ⟨d, s, m, h1, h2, h3, h4, h5, h6⟩ := h
  exact ⟨d, s, m, h1, h2, h3, h4, h5, by omega⟩
theorem Pot.same {H H' : Hp} {a : Addr} {n : Int} (h : Pot H a n) (e : Same H H') : Pot H' a n := by
  obtain ⟨d, s, m, h1, r⟩ := h
  exact ⟨d, s, m, e _ _ h1, r⟩
theorem Pot.keep {K : PySem.W.Frag} {H H' : Hp} {a : Addr} {n : Int} (h : Pot H a n) (e : But a H H') : Keep K H H' := by
  obtain ⟨d, s, m, h1, r⟩ := h
  exact But.keep e h1
theorem Pot.ne {H : Hp} {a b : Addr} {n : Int} (h : Pot H a n) (e : H b = none) : b ≠ a := fun z => by
  obtain ⟨d, s, m, h1, r⟩ := h
  rw [z, h1] at e; cases e
theorem But.free {a l : Addr} {H H' : Hp} (b : But a H H') (h : H' l = none) (n : l ≠ a) : H l = none := by
  cases e : H l with
  | none => rfl
  | some o => rw [b _ _ n e] at h; cases h
theorem But.mut {a l : Addr} {H H' : Hp} {o : HO} (b : But a H H') (h : H l = none) : But a H (L2.upd H' l o) := fun c u n e => by
  rw [upd_ne (ne_of_none e h)]; exact b _ _ n e
theorem Pot.upd {H : Hp} {a l : Addr} {n : Int} {o : HO} (h : Pot H a n) (e : l ≠ a) : Pot (L2.upd H l o) a n := by
  obtain ⟨d, s, m, h1, r⟩ := h
  exact ⟨d, s, m, by rw [upd_ne e.symm]; exact h1, r⟩
theorem na_lt {x : Int} {n : Nat} (h0 : 0 ≤ x) (h1 : x < ((2 ^ n : Nat) : Int)) : x.natAbs < 2 ^ n := by omega
theorem bit01 (b : Bool) : (if b = true then (1 : Int) else 0).natAbs < 2 ^ 2 ∧ (0 : Int) ≤ (if b = true then (1 : Int) else 0) := by cases b <;> exact ⟨by decide, by decide⟩
set_option exponentiation.threshold 2000
section
variable {P : Program} {w : World} {K : PySem.W.Frag} {mg : Str → Option Value} {base : Heap}
def sp_L_s5_hand (K : PySem.W.Frag) : Sp := fun vs H Q _ => ∃ (a : Addr) (ns : List Int) (pl : Nat), vs = [.ref a, .int (pl : Int)] ∧ SqL K H a (ns.map V.int) ∧ pl ≤ 62 ∧ ∀ H' p, Same H H' → H p = none → Pot H' p 0 → Q (.ref p) H'
theorem ok_L_s5_hand (TX : Tx K mg) : FnOk P w K mg base CX0 1 TX.a_L_s5_hand TX.fd_L_s5_hand ["_law_script", "_law_nth"] (sp_L_s5_hand K) := by
  refine TX.f_L_s5_hand.ok sc_L_s5_hand (fun vs H Q E h => ?_) (fun cdv A outer s H vs Q E hr h => ?_)
  · obtain ⟨a, ns, pl, rfl, _⟩ := h; rfl
  · obtain ⟨a, ns, pl, rfl, hS, hpl, q⟩ := h
    refine ⟨_, (pss_cut (ps_set (i := 2) sc_L_s5_hand.nd rfl (.inl rfl) (pe_ifExp (pt_cmpR op_lt (pv 1) (pe_callB (id := "len") (k_len (K := K) rfl) (by rfl) TX.b_len (by decide +kernel) (pa_cons (pv 0) pa_nil)) (nomark _)) (pe_ix (k_ixL (K := K) rfl) (pv 0) (pv 1) (fun _ _ => rfl)) pe_int))
      (pss_cons (ps_set (i := 3) sc_L_s5_hand.nd rfl (.inl rfl) (pe_op op_mulW (pe_op op_mod (pe_callB (id := "abs") call_abs (by rfl) TX.b_abs (by decide +kernel) (pa_cons (pv 2) pa_nil)) (pe_op op_powW (pe_op op_powW pe_int pe_int) pe_int)) (pe_callTy (T := "int") call_int1 (by rfl) TX.b_int (by decide +kernel) (pa_cons (pe_cmpR op_ge (pe_callB (id := "abs") call_abs (by rfl) TX.b_abs (by decide +kernel) (pa_cons (pv 2) pa_nil)) (pe_op op_powW pe_int pe_int) (nomark _)) pa_nil))))
      (pss_cons (ps_set (i := 4) sc_L_s5_hand.nd rfl (.inl rfl) (pe_op op_add (pe_op op_add (pe_op op_add (pe_op op_mulW (pe_op op_mod (pv 2) pe_int) pe_int) (pe_op op_mulW (pe_op op_mulW pe_int (pv 1)) (pv 1))) (pe_op op_mulW pe_int (pv 1))) pe_int))
      (pss_one (ps_ret (pe_lst (pa_cons (pv 3) (pa_cons (pe_op op_mod (pv 4) pe_int) (pa_cons pe_int pa_nil))))))))), ?_⟩
    have P0 : (0 : Int) < (10 ^ (60 : Int).toNat) ^ (5 : Int).toNat := by decide +kernel
    have P1 : ((10 ^ (60 : Int).toNat) ^ (5 : Int).toNat : Int) < ((2 ^ 1000 : Nat) : Int) := by decide +kernel
    have nl1 : ∀ pl : Nat, pl ≤ 62 → (0 : Int) ≤ 7919 * (pl : Int) * (pl : Int) ∧ 7919 * (pl : Int) * (pl : Int) ≤ 7919 * 3844 := fun pl h => by
      have h1 : (pl : Int) * (pl : Int) ≤ 62 * 62 := Int.mul_le_mul (by omega) (by omega) (by omega) (by omega)
      have h2 : (0 : Int) ≤ (pl : Int) * (pl : Int) := Int.mul_nonneg (by omega) (by omega)
      rw [Int.mul_assoc]; omega
    refine ⟨fun σ' H2 => H2 = H ∧ ∃ c : Int, σ' = [some (.ref a), some (.int (pl : Int)), some (.int c), none, none], ?_, ?_⟩
    · refine ⟨_, rfl, .ref a, rfl, a, _, rfl, .inl hS, _, _, rfl, rfl, _, rfl, ?_⟩
      refine ite2 (fun h => ?_) (fun h => ?_)
      · have hlt : pl < ns.length := by
          have := of_decide_eq_true h
          rw [List.length_map] at this
          omega
        exact ⟨.ref a, rfl, _, rfl, a, _, _, .int ns[pl], rfl, rfl, hS, atI_nat (by rw [List.getElem?_map, List.getElem?_eq_getElem hlt]; rfl), rfl, _, rfl⟩
      · exact ⟨rfl, _, rfl⟩
    · rintro σ' H2 ⟨rfl, c, rfl⟩
      have c0 := Int.emod_nonneg c (show (2305843009213693951 : Int) ≠ 0 by decide)
      have c1 := Int.emod_lt_of_pos c (show (0 : Int) < 2305843009213693951 by decide)
      refine ⟨_, rfl, _, rfl, _, _, rfl, rfl, ⟨by decide, by decide +kernel⟩, _, _, rfl, rfl, ⟨by decide, by decide +kernel⟩, _, _, rfl, rfl, P0, _, rfl, _, rfl, _, _, rfl, rfl, ⟨by decide, by decide +kernel⟩, _, _, rfl, rfl, .inr ⟨_, rfl, _, _, rfl, rfl, ?_, ?_⟩⟩
      · exact wide_mul (a := 1000) (b := 2) (na_lt (Int.emod_nonneg _ (Int.ne_of_gt P0)) (Int.lt_trans (Int.emod_lt_of_pos _ P0) P1)) (bit01 _).1 (by decide) (by decide) (by decide)
      · have := nl1 pl hpl
        refine ⟨_, rfl, _, _, rfl, rfl, (show (0 : Int) < 2305843009213693951 by decide), _, _, rfl, rfl, wide_mul (a := 61) (b := 20) (by omega) (by decide) (by decide) (by decide) (by decide), _, rfl, _, _, rfl, rfl, wide_mul (a := 13) (b := 7) (by decide) (by omega) (by decide) (by decide) (by decide), _, rfl, _, _, rfl, rfl, wide_mul (a := 20) (b := 7) (by omega) (by omega) (by decide) (by decide) (by decide), _, _, rfl, rfl, _, rfl, _, _, rfl, rfl, wide_mul (a := 13) (b := 7) (by decide) (by omega) (by decide) (by decide) (by decide), _, _, rfl, rfl, _, _, rfl, rfl, ?_⟩
        refine ⟨_, rfl, _, rfl, _, _, rfl, rfl, (show (0 : Int) < 2305843009213693921 by decide), sz60 (by simp), fun p np => q _ p (same_upd np) np ?_⟩
        refine ⟨_, _, _, upd_same, ?_, Int.emod_nonneg _ (by decide), Int.lt_trans (Int.emod_lt_of_pos _ (by decide)) (by decide), by decide, by decide⟩
        refine Int.mul_nonneg (Int.emod_nonneg _ (Int.ne_of_gt P0)) ?_
        exact (bit01 _).2
def sp_L_s5_take (K : PySem.W.Frag) : Sp := fun vs H Q _ => ∃ (a : Addr) (z n : Int), vs = [.ref a, .int z] ∧ Pot H a n ∧ n ≤ 100000 ∧ 1 ≤ z ∧ z ≤ 2 ^ 64 ∧ ∀ H' r, But a H H' → Pot H' a (n + 1) → 0 ≤ r → r < z → Q (.int r) H'
theorem prime_at {m : Int} (h0 : 0 ≤ m) : ∃ v : Int, atI [V.int 2147483647, V.int 2147483629, V.int 2147483587, V.int 2147483579, V.int 2147483563, V.int 2147483549, V.int 2147483543, V.int 2147483497] (m % 8) = some (.int v) ∧ 2147483400 < v ∧ v < 2 ^ 31 := by
  have h : m % 8 = 0 ∨ m % 8 = 1 ∨ m % 8 = 2 ∨ m % 8 = 3 ∨ m % 8 = 4 ∨ m % 8 = 5 ∨ m % 8 = 6 ∨ m % 8 = 7 := by omega
  rcases h with h | h | h | h | h | h | h | h <;> rw [h]
  · exact ⟨_, rfl, by decide, by decide⟩
  · exact ⟨_, rfl, by decide, by decide⟩
  · exact ⟨_, rfl, by decide, by decide⟩
  · exact ⟨_, rfl, by decide, by decide⟩
  · exact ⟨_, rfl, by decide, by decide⟩
  · exact ⟨_, rfl, by decide, by decide⟩
  · exact ⟨_, rfl, by decide, by decide⟩
  · exact ⟨_, rfl, by decide, by decide⟩
theorem ok_L_s5_take (TX : Tx K mg) : FnOk P w K mg base CX0 1 TX.a_L_s5_take TX.fd_L_s5_take ["_law_hand", "_law_size"] (sp_L_s5_take K) := by
  refine TX.f_L_s5_take.ok sc_L_s5_take (fun vs H Q E h => ?_) (fun cdv A outer s H vs Q E hr h => ?_)
  · obtain ⟨a, z, n, rfl, _⟩ := h; rfl
  · obtain ⟨a, z, n, rfl, ⟨d, sd, m, hp, hd, hs0, hs1, hm0, hm1⟩, hn, hz1, hz2, q⟩ := h
    refine ⟨_, (pss_cons (ps_if (pt_cmpR op_gt (pe_ix (k_ixL (K := K) rfl) (pv 0) pe_int (fun _ _ => rfl)) pe_int (nomark _))
        (pss_cons (ps_set (i := 2) sc_L_s5_take.nd rfl (.inl rfl) (pe_op op_mod (pe_ix (k_ixL (K := K) rfl) (pv 0) pe_int (fun _ _ => rfl)) (pv 1)))
        (pss_cons (ps_asg (pe_op op_fdivW (pe_ix (k_ixL (K := K) rfl) (pv 0) pe_int (fun _ _ => rfl)) (pv 1)) (pg_sub (pv 0) pe_int set_list))
        (pss_one (ps_ret (pv 2)))))
        pss_nil)
      (pss_cons (ps_asg (pe_op op_add (pe_ix (k_ixL (K := K) rfl) (pv 0) pe_int (fun _ _ => rfl)) pe_int) (pg_sub (pv 0) pe_int set_list))
      (pss_cons (ps_set (i := 3) sc_L_s5_take.nd rfl (.inl rfl) (pe_lst (pa_cons pe_int (pa_cons pe_int (pa_cons pe_int (pa_cons pe_int (pa_cons pe_int (pa_cons pe_int (pa_cons pe_int (pa_cons pe_int pa_nil))))))))))
      (pss_cons (ps_set (i := 4) sc_L_s5_take.nd rfl (.inl rfl) (pe_ix (k_ixL (K := K) rfl) (pv 3) (pe_op op_mod (pe_ix (k_ixL (K := K) rfl) (pv 0) pe_int (fun _ _ => rfl)) pe_int) (fun _ _ => rfl)))
      (pss_cons (ps_set (i := 5) sc_L_s5_take.nd rfl (.inl rfl) (pe_op op_add (pe_op op_mod (pe_op op_mod (pe_op op_add (pe_ix (k_ixL (K := K) rfl) (pv 0) pe_int (fun _ _ => rfl)) (pe_op op_mulW (pe_op op_mulW pe_int (pe_ix (k_ixL (K := K) rfl) (pv 0) pe_int (fun _ _ => rfl))) (pe_ix (k_ixL (K := K) rfl) (pv 0) pe_int (fun _ _ => rfl)))) (pe_op op_mulW (pv 4) (pv 4))) (pv 4)) pe_int))
      (pss_cons (ps_set (i := 6) sc_L_s5_take.nd rfl (.inl rfl) (pe_op op_fdivW (pe_op op_mod (pe_op op_mulW (pe_op op_mod (pe_op op_mulW (pv 5) (pe_op op_add (pe_op op_mod (pv 5) pe_int) (pe_ix (k_ixL (K := K) rfl) (pv 0) pe_int (fun _ _ => rfl)))) (pv 4)) pe_int) (pv 4)) pe_int))
      (pss_cons (ps_if (pt_cmpR op_gt (pv 1) (pe_op op_powW pe_int pe_int) (nomark _))
        (pss_one (ps_set (i := 6) sc_L_s5_take.nd rfl (.inl rfl) (pe_op op_mod (pe_op op_pow (pe_op op_add (pv 6) pe_int) pe_int) (pe_op op_add (pe_op op_powW pe_int pe_int) pe_int))))
        pss_nil)
      (pss_one (ps_ret (pe_op op_mod (pv 6) (pv 1))))))))))), ?_⟩
    refine ⟨.ref a, rfl, a, _, _, .int d, rfl, rfl, .inl (.inl hp), rfl, _, _, rfl, rfl, _, rfl, ite2 (fun h => ?_) (fun h => ?_)⟩
    · refine ⟨.ref a, rfl, a, _, _, .int d, rfl, rfl, .inl (.inl hp), rfl, _, rfl, _, _, rfl, rfl, (show 0 < z by omega), ?_⟩
      refine ⟨.ref a, rfl, a, _, _, .int d, rfl, rfl, .inl (.inl hp), rfl, _, rfl, _, _, rfl, rfl, wide_div (b := 66) (by omega) (by omega) (by decide) (by decide), .ref a, rfl, a, _, 0, 0, rfl, rfl, hp, rfl, ?_⟩
      refine ⟨_, rfl, q _ _ But.upd ⟨d / z, sd, m, upd_same, Int.ediv_nonneg hd (by omega), hs0, hs1, hm0, by omega⟩ (Int.emod_nonneg _ (by omega)) (Int.emod_lt_of_pos _ (by omega))⟩
    · refine ⟨.ref a, rfl, a, _, _, .int m, rfl, rfl, .inl (.inl hp), rfl, _, _, rfl, rfl, .ref a, rfl, a, _, 2, 2, rfl, rfl, hp, rfl, ?_⟩
      have hp1 : (upd H a (.lst (List.set [V.int d, V.int sd, V.int m] 2 (V.int (m + 1))))) a = some (.lst [V.int d, V.int sd, V.int (m + 1)]) := upd_same
      have b1 : But a H (upd H a (.lst (List.set [V.int d, V.int sd, V.int m] 2 (V.int (m + 1))))) := But.upd
      generalize upd H a (.lst (List.set [V.int d, V.int sd, V.int m] 2 (V.int (m + 1)))) = H1 at hp1 b1 ⊢
      refine ⟨sz60 (by simp), fun pl npl => ?_⟩
      have s2 := same_upd (o := .lst [V.int 2147483647, V.int 2147483629, V.int 2147483587, V.int 2147483579, V.int 2147483563, V.int 2147483549, V.int 2147483543, V.int 2147483497]) npl
      have hp2 := s2 _ _ hp1
      obtain ⟨pr, hpr, pr0, pr1⟩ := prime_at (m := m + 1) (by omega)
      refine ⟨.ref pl, rfl, .ref a, rfl, a, _, _, _, rfl, rfl, .inl (.inl hp2), rfl, _, _, rfl, rfl, (show (0 : Int) < 8 by decide), pl, _, _, .int pr, rfl, rfl, .inl (.inl upd_same), hpr, ?_⟩
      have k1 : (m + 1) * (m + 1) ≤ 100001 * 100001 := Int.mul_le_mul (by omega) (by omega) (by omega) (by omega)
      have k2 : (0 : Int) ≤ (m + 1) * (m + 1) := Int.mul_nonneg (by omega) (by omega)
      have k3 : 69621 * (m + 1) * (m + 1) = 69621 * ((m + 1) * (m + 1)) := Int.mul_assoc _ _ _
      have k4 : 0 < pr * pr := Int.mul_pos (by omega) (by omega)
      refine ⟨.ref a, rfl, a, _, _, _, rfl, rfl, .inl (.inl hp2), rfl, .ref a, rfl, a, _, _, _, rfl, rfl, .inl (.inl hp2), rfl, _, _, rfl, rfl, wide_mul (a := 17) (b := 18) (by decide) (by omega) (by decide) (by decide) (by decide), .ref a, rfl, a, _, _, _, rfl, rfl, .inl (.inl hp2), rfl, _, _, rfl, rfl, wide_mul (a := 36) (b := 18) (by omega) (by omega) (by decide) (by decide) (by decide), _, _, rfl, rfl, _, rfl, _, rfl, _, _, rfl, rfl, wide_mul (a := 31) (b := 31) (by omega) (by omega) (by decide) (by decide) (by decide), _, _, rfl, rfl, k4, _, rfl, _, _, rfl, rfl, (show 0 < pr by omega), _, _, rfl, rfl, ?_⟩
      generalize hmx : (sd + 69621 * (m + 1) * (m + 1)) % (pr * pr) % pr + 1 = mx
      have mx0 : 0 < mx := by rw [← hmx]; have := Int.emod_nonneg ((sd + 69621 * (m + 1) * (m + 1)) % (pr * pr)) (show pr ≠ 0 by omega); omega
      have mx1 : mx ≤ pr := by rw [← hmx]; have := Int.emod_lt_of_pos ((sd + 69621 * (m + 1) * (m + 1)) % (pr * pr)) (show 0 < pr by omega); omega
      refine ⟨_, rfl, _, rfl, _, _, rfl, rfl, (show (0 : Int) < 1009 by decide), .ref a, rfl, a, _, _, _, rfl, rfl, .inl (.inl hp2), rfl, _, _, rfl, rfl, _, _, rfl, rfl, wide_mul (a := 32) (b := 20) (by omega) (by omega) (by decide) (by decide) (by decide), _, rfl, _, _, rfl, rfl, (show 0 < pr by omega), _, _, rfl, rfl, ?_, _, rfl, _, _, rfl, rfl, (show 0 < pr by omega), _, _, rfl, rfl, wide_div (b := 4) (by decide) (by decide) (by decide) (by decide), ?_⟩
      · refine wide_mul (a := 32) (b := 17) (na_lt (Int.emod_nonneg _ (by omega)) (Int.lt_trans (Int.emod_lt_of_pos _ (by omega)) (by omega))) (by decide) (by decide) (by decide) (by decide)
      generalize hdr : mx * (mx % 1009 + (m + 1)) % pr * 48271 % pr / 7 = dr
      have dr0 : 0 ≤ dr := by rw [← hdr]; exact Int.ediv_nonneg (Int.emod_nonneg _ (by omega)) (by decide)
      have dr1 : dr < pr := by
        rw [← hdr]
        have h1 := Int.emod_lt_of_pos (mx * (mx % 1009 + (m + 1)) % pr * 48271) (show 0 < pr by omega)
        have h2 := Int.emod_nonneg (mx * (mx % 1009 + (m + 1)) % pr * 48271) (show pr ≠ 0 by omega)
        omega
      have fin : ∀ x : Int, Q (.int (x % z)) (upd H1 pl (.lst [V.int 2147483647, V.int 2147483629, V.int 2147483587, V.int 2147483579, V.int 2147483563, V.int 2147483549, V.int 2147483543, V.int 2147483497])) := fun x =>
        q _ _ (b1.trans (But.of s2)) ⟨d, sd, m + 1, hp2, hd, hs0, hs1, by omega, by omega⟩ (Int.emod_nonneg _ (by omega)) (Int.emod_lt_of_pos _ (by omega))
      have q0 : (0 : Int) < 10 ^ (40 : Int).toNat + 121 := by decide +kernel
      refine ⟨_, rfl, _, _, rfl, rfl, ⟨by decide, by decide +kernel⟩, _, _, rfl, rfl, _, rfl, ite2 (fun h => ?_) (fun h => ?_)⟩
      · refine ⟨_, rfl, _, _, rfl, rfl, _, _, rfl, rfl, ⟨by decide, by decide, by rw [hmx, hdr]; omega⟩, _, _, rfl, rfl, ⟨by decide, by decide +kernel⟩, _, _, rfl, rfl, _, _, rfl, rfl, q0, ?_⟩
        exact ⟨_, rfl, _, rfl, _, _, rfl, rfl, (show 0 < z by omega), fin _⟩
      · exact ⟨_, rfl, _, rfl, _, _, rfl, rfl, (show 0 < z by omega), fin _⟩
def sp_L_s5_of (K : PySem.W.Frag) : Sp := fun vs H Q _ => ∃ (a l : Addr) (xs : List V) (n : Int), vs = [.ref a, .ref l] ∧ Pot H a n ∧ n ≤ 100000 ∧ SqL K H l xs ∧ l ≠ a ∧ xs ≠ [] ∧ xs.length ≤ 100000 ∧ ∀ H' v, But a H H' → Pot H' a (n + 1) → v ∈ xs → Q v H'
theorem But.seq {K : PySem.W.Frag} {a l : Addr} {H H' : Hp} {xs : List V} (b : But a H H') (n : l ≠ a) (h : SqL K H l xs) : SqL K H' l xs := by
  rcases h with (h | ⟨o, h⟩) | h
  · exact .inl (.inl (b _ _ n h))
  · exact .inl (.inr ⟨o, b _ _ n h⟩)
  · exact .inr h
theorem ok_L_s5_of (TX : Tx K mg) : FnOk P w K mg base CX0 2 TX.a_L_s5_of TX.fd_L_s5_of ["_law_hand", "_law_options"] (sp_L_s5_of K) := by
  refine TX.f_L_s5_of.ok sc_L_s5_of (fun vs H Q E h => ?_) (fun cdv A outer s H vs Q E hr h => ?_)
  · obtain ⟨a, l, xs, n, rfl, _⟩ := h; rfl
  · obtain ⟨a, l, xs, n, rfl, hp, hn, hl, nla, hne, hlen, q⟩ := h
    refine ⟨_, (pss_one (ps_ret (pe_ix (k_ixL (K := K) rfl) (pv 1) (pe_call (ok_L_s5_take TX) (hr.mono (by decide)) (by rfl) TX.g_L_s5_take TX.f_L_s5_take.kp TX.bd_L_s5_take .nil pass0 (pa_cons (pv 0) (pa_cons (pe_callB (id := "len") (k_len (K := K) rfl) (by rfl) TX.b_len (by decide +kernel) (pa_cons (pv 1) pa_nil)) pa_nil))) (fun _ _ => rfl)))), ?_⟩
    have h0 : 0 < xs.length := List.length_pos_iff.mpr hne
    refine ⟨.ref l, rfl, .ref a, rfl, .ref l, rfl, l, _, rfl, .inl hl, a, _, n, rfl, hp, hn, by omega, by omega, fun H' r b1 p1 r0 r1 => ?_⟩
    have er : r = ((r.toNat : Nat) : Int) := by omega
    have hr1 : r.toNat < xs.length := by omega
    have hat : atI xs r = some xs[r.toNat] := by
      have := atI_nat (List.getElem?_eq_getElem hr1)
      rwa [← er] at this
    exact ⟨l, xs, r, xs[r.toNat], rfl, rfl, b1.seq nla hl, hat, q _ _ b1 p1 (List.getElem_mem ..)⟩
end
section
variable {P : Program} {w : World} {K : PySem.W.Frag} {mg : Str → Option Value} {base : Heap}
def sp_check_budgets (K : PySem.W.Frag) : Sp := fun vs H Q _ => ∃ k c m : Int, vs = [.int k, .int c, .int m] ∧ 0 ≤ k ∧ k ≤ m ∧ 0 ≤ c ∧ c ≤ m ∧ ∀ H', Same H H' → Q .non H'
theorem ok_check_budgets (TX : Tx K mg) : FnOk P w K mg base CX0 4 TX.a_check_budgets TX.fd_check_budgets ["k", "c", "most"] (sp_check_budgets K) := by
  refine TX.f_check_budgets.ok sc_check_budgets (fun vs H Q E h => ?_) (fun cdv A outer s H vs Q E hr h => ?_)
  · obtain ⟨k, c, m, rfl, _⟩ := h; rfl
  · obtain ⟨k, c, m, rfl, k0, k1, c0, c1, q⟩ := h
    refine ⟨_, (pss_one (ps_for PassesOwn.never rfl (k_piT (K := K) rfl (pe_tup (pa_cons (pv 0) (pa_cons (pv 1) pa_nil)))) (pg_name (i := 3) sc_check_budgets.nd rfl (.inl rfl))
        (pss_one (ps_if (pt_not (pt_val (pe_call (ok_is_count_up_to TX) (hr.mono (by decide)) (by rfl) TX.g_is_count_up_to TX.f_is_count_up_to.kp TX.bd_is_count_up_to .nil pass0 (pa_cons (pv 3) (pa_cons (pv 2) pa_nil)))))
          (pss_one ps_never)
          pss_nil)))), ?_⟩
    refine ⟨_, rfl, _, rfl, sz60 (by simp), fun t nt => ⟨t, rfl, ⟨_, .inl (.inl upd_same)⟩, for_tup (K := K) (xs := [V.int k, V.int c]) (fun i σ H' => H' = upd H t (.tup [V.int k, V.int c]) ∧ ∃ y, σ = [some (.int k), some (.int c), some (.int m), y]) ⟨rfl, none, rfl⟩ (fun i σ H' _ h => by rw [h.1]; exact .inl (.inl upd_same)) ?_ ?_⟩⟩
    · rintro i x σ H' hx ⟨rfl, y, rfl⟩
      have hb : ∃ b : Int, x = .int b ∧ 0 ≤ b ∧ b ≤ m := by
        match i, hx with
        | 0, hx => cases hx; exact ⟨k, rfl, k0, k1⟩
        | 1, hx => cases hx; exact ⟨c, rfl, c0, c1⟩
        | i + 2, hx => simp at hx
      obtain ⟨b, rfl, b0, b1⟩ := hb
      exact ⟨_, rfl, _, rfl, _, _, rfl, true, by rw [decide_eq_true b0, decide_eq_true b1]; rfl, iteF ⟨rfl, _, rfl⟩⟩
    · rintro σ H' ⟨rfl, y, rfl⟩
      exact q _ (same_upd nt)
def isSta (k c : Nat) (st : List Nat) : Bool := decide (st.length ≤ k) && st.all fun x => decide (1 ≤ x) && decide (x ≤ c)
theorem isSta_iff {k c : Nat} {st : List Nat} : isSta k c st = true ↔ Sta k c st := by
  unfold isSta Sta
  simp only [Bool.and_eq_true, decide_eq_true_eq, List.all_eq_true]
def sp_is_state (K : PySem.W.Frag) : Sp := fun vs H Q _ => ∃ (a : Addr) (st : List Nat) (k c : Nat), vs = [.ref a, .int (k : Int), .int (c : Int)] ∧ SqT K H a (vi st) ∧ k ≤ 60 ∧ c ≤ 60 ∧ ∀ H', Same H H' → Q (.bl (isSta k c st)) H'
theorem ok_is_state (TX : Tx K mg) : FnOk P w K mg base CX0 5 TX.a_is_state TX.fd_is_state ["value", "k", "c"] (sp_is_state K) := by
  refine TX.f_is_state.ok sc_is_state (fun vs H Q E h => ?_) (fun cdv A outer s H vs Q E hr h => ?_)
  · obtain ⟨a, st, k, c, rfl, _⟩ := h; rfl
  · obtain ⟨a, st, k, c, rfl, hS, hk, hc, q⟩ := h
    refine ⟨_, (pss_cons (ps_expr (pe_call (ok_check_budgets TX) (hr.mono (by decide)) (by rfl) TX.g_check_budgets TX.f_check_budgets.kp TX.bd_check_budgets .nil pass0 (pa_cons (pv 1) (pa_cons (pv 2) (pa_cons (pe_glob (v := .int (60)) (by rfl) TX.c_MOST_BUDGET ⟨_, rfl⟩) pa_nil)))))
      (pss_cons (ps_if (PW.pt (pw_or (pt_not (pt_val (pe_callB (id := "isinstance") (k_isi (K := K) rfl) (by rfl) TX.b_isinstance (by decide +kernel) (pa_cons (pv 0) (pa_cons (pe_bltn (v := .ty "tuple") (by rfl) TX.b_tuple (by decide +kernel) rfl) pa_nil))))) (pw_or1 (pt_cmpR op_gt (pe_callB (id := "len") (k_len (K := K) rfl) (by rfl) TX.b_len (by decide +kernel) (pa_cons (pv 0) pa_nil)) (pv 1) (nomark _)))))
        (pss_one (ps_ret pe_bl))
        pss_nil)
      (pss_one (ps_ret (pe_callB (id := "all") (cr_all rfl) (by rfl) TX.b_all (by decide +kernel) (pa_cons (pe_lc (own := [("count", 3)]) (by rfl) sc_is_state.nd (k_piT (K := K) rfl (pv 0)) (blkOk_by (own := [("count", 3)]) (N := N_is_state) (sc := defScope s_is_state) (by decide +kernel)) (fun _ _ _ _ _ => (pg_name (i := 3) sc_is_state.nd rfl (Or.inl rfl))) (fun _ _ _ _ _ => pts_nil) (fun _ _ _ _ _ => (pe_and (pe_call (ok_is_int TX) (hr.mono (by decide)) (by rfl) TX.g_is_int TX.f_is_int.kp TX.bd_is_int .nil pass0 (pa_cons (pv 3) pa_nil)) (pe_one (pe_chain op_le op_le pe_int (pv 3) (pv 2)))))) pa_nil)))))), ?_⟩
    refine ⟨_, rfl, _, rfl, _, _, _, rfl, by omega, by omega, by omega, by omega, fun H1 s1 => ?_⟩
    have h1 := Same.tup s1 hS
    refine ⟨.ref a, rfl, .ref a, .ty "tuple", .type "tuple", .type "tuple", true, rfl, .ty _, ty_tup h1, kit_ty (by decide +kernel), true, rfl, iteF ?_⟩
    refine ⟨.ref a, rfl, a, _, rfl, .inr h1, _, rfl, _, _, rfl, rfl, _, rfl, ?_⟩
    by_cases hl : st.length ≤ k
    · refine decF (by rw [vi_len]; omega) ?_
      refine ⟨.ref a, rfl, a, rfl, ⟨_, h1⟩, fun D nD => lc_bools (K := K) walk_tup (st.map fun x => decide (1 ≤ x) && decide (x ≤ c)) (by rw [List.length_map, vi_len]) (by rw [vi_len]; omega) nD (fun H' s' => Same.tup s' h1) ?_ ?_ (fun x σ' H' Q Q' h => h _ _) (fun σ' H' Q Q' h => h _ _)⟩
      · rintro i x H2 H2' hi s2 ⟨rfl, hx⟩ b hb R hR
        have hi' : i < st.length := by rwa [vi_len] at hi
        have hg := List.getElem?_eq_getElem hi'
        rw [vi_get hg] at hx
        cases hx
        rw [List.getElem?_map, hg] at hb
        cases hb
        have hR' := hR H2' (Same.refl _)
        dsimp only at hR'
        refine ⟨rfl, rfl, _, rfl, _, rfl, true, rfl, iteT ⟨_, rfl, _, _, rfl, rfl, _, rfl, ?_⟩⟩
        by_cases g1 : 1 ≤ st[i]
        · rw [decide_eq_true g1, Bool.true_and] at hR'
          refine decT (by omega) ⟨_, rfl, _, _, rfl, rfl, ?_⟩
          by_cases g2 : st[i] ≤ c
          · rw [decide_eq_true g2] at hR'
            rw [← blT (show ((st[i] : Nat) : Int) ≤ (c : Int) by omega)] at hR'
            exact hR'
          · rw [decide_eq_false g2] at hR'
            rw [← blF (show ¬ ((st[i] : Nat) : Int) ≤ (c : Int) by omega)] at hR'
            exact hR'
        · rw [decide_eq_false g1, Bool.false_and] at hR'
          exact decF (by omega) hR'
      · intro H2 s2 hD
        refine ⟨D, _, rfl, .inl (.inl hD), ?_⟩
        have := q H2 (s1.trans s2)
        unfold isSta at this
        rw [decide_eq_true hl, Bool.true_and] at this
        rw [List.all_map]
        exact this
    · refine decT (by rw [vi_len]; omega) ?_
      have := q H1 s1
      unfold isSta at this
      rw [decide_eq_false hl, Bool.false_and] at this
      exact this
def sp_check_state (K : PySem.W.Frag) : Sp := fun vs H Q _ => ∃ (a : Addr) (st : List Nat) (k c : Nat), vs = [.ref a, .int (k : Int), .int (c : Int)] ∧ SqT K H a (vi st) ∧ k ≤ 60 ∧ c ≤ 60 ∧ Sta k c st ∧ ∀ H', Same H H' → Q .non H'
theorem ok_check_state (TX : Tx K mg) : FnOk P w K mg base CX0 6 TX.a_check_state TX.fd_check_state ["state", "k", "c"] (sp_check_state K) := by
  refine TX.f_check_state.ok sc_check_state (fun vs H Q E h => ?_) (fun cdv A outer s H vs Q E hr h => ?_)
  · obtain ⟨a, st, k, c, rfl, _⟩ := h; rfl
  · obtain ⟨a, st, k, c, rfl, hS, hk, hc, hst, q⟩ := h
    refine ⟨_, (pss_one (ps_if (pt_not (pt_val (pe_call (ok_is_state TX) (hr.mono (by decide)) (by rfl) TX.g_is_state TX.f_is_state.kp TX.bd_is_state .nil pass0 (pa_cons (pv 0) (pa_cons (pv 1) (pa_cons (pv 2) pa_nil))))))
        (pss_one ps_never)
        pss_nil)), ?_⟩
    exact ⟨.ref a, rfl, _, rfl, _, rfl, a, st, k, c, rfl, hS, hk, hc, fun H1 s1 => ⟨true, by rw [isSta_iff.mpr hst], iteF (q H1 s1)⟩⟩
def sp_lifetime (K : PySem.W.Frag) : Sp := fun vs H Q _ => ∃ k c : Nat, vs = [.int (k : Int), .int (c : Int)] ∧ k ≤ 60 ∧ c ≤ 60 ∧ ∀ H', Same H H' → Q (.int ((bin (k + c) k : Int) - 1)) H'
theorem ok_lifetime (TX : Tx K mg) : FnOk P w K mg base CX0 5 TX.a_lifetime TX.fd_lifetime ["k", "c"] (sp_lifetime K) := by
  refine TX.f_lifetime.ok sc_lifetime (fun vs H Q E h => ?_) (fun cdv A outer s H vs Q E hr h => ?_)
  · obtain ⟨k, c, rfl, _⟩ := h; rfl
  · obtain ⟨k, c, rfl, hk, hc, q⟩ := h
    refine ⟨_, (pss_cons (ps_expr (pe_call (ok_check_budgets TX) (hr.mono (by decide)) (by rfl) TX.g_check_budgets TX.f_check_budgets.kp TX.bd_check_budgets .nil pass0 (pa_cons (pv 0) (pa_cons (pv 1) (pa_cons (pe_glob (v := .int (60)) (by rfl) TX.c_MOST_BUDGET ⟨_, rfl⟩) pa_nil)))))
      (pss_one (ps_ret (pe_op op_sub (pe_call (ok_choose TX) (hr.mono (by decide)) (by rfl) TX.g_choose TX.f_choose.kp TX.bd_choose .nil pass0 (pa_cons (pe_op op_add (pv 0) (pv 1)) (pa_cons (pv 0) pa_nil))) pe_int)))), ?_⟩
    exact ⟨_, rfl, _, rfl, _, _, _, rfl, by omega, by omega, by omega, by omega, fun H1 s1 => ⟨_, rfl, _, rfl, _, _, rfl, rfl, _, rfl, k + c, k, rfl, by omega, by omega, by omega, _, _, rfl, rfl, q H1 s1⟩⟩
def sp_remaining (K : PySem.W.Frag) : Sp := fun vs H Q _ => ∃ (a : Addr) (st : List Nat) (k c : Nat), vs = [.ref a, .int (k : Int), .int (c : Int)] ∧ SqT K H a (vi st) ∧ k ≤ 60 ∧ c ≤ 60 ∧ Sta k c st ∧ ∀ H', Same H H' → Q (.int (remv k c st)) H'
theorem ok_remaining (TX : Tx K mg) : FnOk P w K mg base CX0 7 TX.a_remaining TX.fd_remaining ["state", "k", "c"] (sp_remaining K) := by
  refine TX.f_remaining.ok sc_remaining (fun vs H Q E h => ?_) (fun cdv A outer s H vs Q E hr h => ?_)
  · obtain ⟨a, st, k, c, rfl, _⟩ := h; rfl
  · obtain ⟨a, st, k, c, rfl, hS, hk, hc, hst, q⟩ := h
    refine ⟨_, (pss_cons (ps_expr (pe_call (ok_check_state TX) (hr.mono (by decide)) (by rfl) TX.g_check_state TX.f_check_state.kp TX.bd_check_state .nil pass0 (pa_cons (pv 0) (pa_cons (pv 1) (pa_cons (pv 2) pa_nil)))))
      (pss_cons (ps_set (i := 3) sc_remaining.nd rfl (.inl rfl) (pv 1))
      (pss_cons (ps_set (i := 4) sc_remaining.nd rfl (.inl rfl) (pv 2))
      (pss_cons (ps_set (i := 5) sc_remaining.nd rfl (.inl rfl) pe_int)
      (pss_cons (ps_for PassesOwn.never rfl (pi_range1 (by rfl) TX.b_range (pa_cons (pe_callB (id := "len") (k_len (K := K) rfl) (by rfl) TX.b_len (by decide +kernel) (pa_cons (pv 0) pa_nil)) pa_nil)) (pg_name (i := 6) sc_remaining.nd rfl (.inl rfl))
        (pss_cons (ps_set (i := 7) sc_remaining.nd rfl (.inl rfl) (pe_callB (id := "max") (cr_maxT (K := K) rfl rfl hr.units) (by rfl) TX.b_max (by decide +kernel) (pa_cons (pe_slice (k_slT (K := K) rfl) (pv 0) (po_some (pv 6)) po_none) pa_nil)))
        (pss_cons (ps_aug (i := 5) sc_remaining.nd rfl (.inl rfl) (pe_op op_sub (pe_call (ok_choose TX) (hr.mono (by decide)) (by rfl) TX.g_choose TX.f_choose.kp TX.bd_choose .nil pass0 (pa_cons (pe_op op_add (pv 3) (pv 4)) (pa_cons (pv 3) pa_nil))) (pe_call (ok_choose TX) (hr.mono (by decide)) (by rfl) TX.g_choose TX.f_choose.kp TX.bd_choose .nil pass0 (pa_cons (pe_op op_add (pv 3) (pv 7)) (pa_cons (pv 3) pa_nil)))) ip_add)
        (pss_cons (ps_aug (i := 3) sc_remaining.nd rfl (.inl rfl) pe_int ip_sub)
        (pss_one (ps_set (i := 4) sc_remaining.nd rfl (.inl rfl) (pv 7)))))))
      (pss_one (ps_ret (pe_op op_sub (pe_op op_add (pv 5) (pe_call (ok_choose TX) (hr.mono (by decide)) (by rfl) TX.g_choose TX.f_choose.kp TX.bd_choose .nil pass0 (pa_cons (pe_op op_add (pv 3) (pv 4)) (pa_cons (pv 3) pa_nil)))) pe_int)))))))), ?_⟩
    refine ⟨.ref a, rfl, _, rfl, _, rfl, a, st, k, c, rfl, hS, hk, hc, hst, fun H1 s1 => ⟨_, rfl, _, rfl, .ref a, rfl, a, _, rfl, .inr (Same.tup s1 hS), _, rfl, by omega, by rw [vi_len]; have := hst.1; omega, ?_⟩⟩
    refine for_range (lo := 0) (n := ((vi st).length : Int).toNat) (fun i σ H' => Same H H' ∧ ∃ (m : Nat) (fl : Int) (y6 y7 : Option V), σ = [some (.ref a), some (.int (k : Int)), some (.int (c : Int)), some (.int ((k - i : Nat) : Int)), some (.int (m : Int)), some (.int fl), y6, y7] ∧ fl + remv (k - i) m (st.drop i) = remv k c st ∧ Sta (k - i) m (st.drop i) ∧ m ≤ 60) ⟨s1, c, 0, none, none, rfl, by simp, by simpa using hst, hc⟩ ?_ ?_
    · rintro i σ H2 hi ⟨s2, m, fl, y6, y7, rfl, h1, h2, h3⟩
      have hi' : i < st.length := by rw [vi_len] at hi; omega
      have hik : i < k := by have := hst.1; omega
      have ed : st.drop i = st[i] :: st.drop (i + 1) := List.drop_eq_getElem_cons hi'
      have ei : (0 : Int) + (i : Nat) = (i : Int) := by omega
      rw [ei]
      refine ⟨.ref a, rfl, _, rfl, _, rfl, ?_⟩
      dsimp only [tNoPart]
      refine sl_read (Same.tup s2 hS) fun p H3 s3 h3' => ?_
      rw [cut_drop (by omega), ed] at h3'
      refine ⟨p, _, _, rfl, h3', ?_⟩
      rw [ed] at h1 h2
      have hmx : (List.foldl max ((st[i] : Nat) : Int) (List.map (fun (m : Nat) => (m : Int)) (st.drop (i + 1)))) = ((mx (st[i] :: st.drop (i + 1)) : Nat) : Int) := mx_fold _ _
      rw [hmx]
      have hm := h2.mx_le
      have ht := h2.tail
      have hrec : remv (k - i) m (st[i] :: st.drop (i + 1)) = ((bin (k - i + m) (k - i) : Int) - (bin (k - i + mx (st[i] :: st.drop (i + 1))) (k - i) : Int)) + remv (k - i - 1) (mx (st[i] :: st.drop (i + 1))) (st.drop (i + 1)) := rfl
      rw [hrec] at h1
      generalize mx (st[i] :: st.drop (i + 1)) = M at *
      refine ⟨_, rfl, _, rfl, _, rfl, _, _, rfl, rfl, _, rfl, k - i + m, k - i, rfl, by omega, by omega, by omega, _, rfl, _, rfl, _, _, rfl, rfl, _, rfl, k - i + M, k - i, rfl, by omega, by omega, by omega, _, _, rfl, rfl, _, _, rfl, rfl, ?_⟩
      refine ⟨_, rfl, _, _, rfl, rfl, _, rfl, s2.trans s3, M, fl + ((bin (k - i + m) (k - i) : Int) - (bin (k - i + M) (k - i) : Int)), some (.int (i : Int)), some (.int (M : Int)), ?_, ?_, ?_, by omega⟩
      · show [_, _, _, _, _, _, _, _] = [_, _, _, _, _, _, _, _]
        simp only [List.cons.injEq, Option.some.injEq, V.int.injEq, and_true, true_and]
        omega
      · rw [← h1]
        rw [show k - (i + 1) = k - i - 1 by omega]
        omega
      · rw [show k - (i + 1) = k - i - 1 by omega]; exact ht
    · rintro σ H2 ⟨s2, m, fl, y6, y7, rfl, h1, h2, h3⟩
      rw [show ((vi st).length : Int).toNat = st.length by rw [vi_len]; omega] at *
      rw [List.drop_length] at h1
      refine ⟨_, rfl, _, rfl, _, rfl, _, _, rfl, rfl, _, rfl, k - st.length + m, k - st.length, rfl, by omega, by omega, by omega, _, _, rfl, rfl, _, _, rfl, rfl, ?_⟩
      have := q H2 s2
      rw [← h1] at this
      simp only [remv] at this
      rw [show fl + ((bin (k - st.length + m) (k - st.length) : Int) - 1) = fl + (bin (k - st.length + m) (k - st.length) : Int) - 1 by omega] at this
      exact this
end
section
variable {P : Program} {w : World} {K : PySem.W.Frag} {mg : Str → Option Value} {base : Heap}
theorem mxdef_read {K : PySem.W.Frag} {H : Hp} {p : Addr} {xs : List Nat} {Q : VK} (h : SqT K H p (vi xs)) (q : Q (.int ((mx xs : Nat) : Int)) H) : rMaxDef K [.ref p] [.int 0] H Q := by
  refine ⟨p, 0, ci xs, rfl, rfl, by rw [← vi_ci]; exact h, fun e => ?_, fun m r e => ?_⟩
  · have : xs = [] := by simpa [ci] using e
    subst this; exact q
  · cases xs with
    | nil => simp [ci] at e
    | cons x t =>
      simp only [ci, List.map_cons, List.cons.injEq] at e
      obtain ⟨rfl, rfl⟩ := e
      rw [mx_fold]; exact q
def sp_best_merge (K : PySem.W.Frag) : Sp := fun vs H Q _ => ∃ (a : Addr) (st : List Nat) (k c : Nat), vs = [.ref a, .int (k : Int), .int (c : Int)] ∧ SqT K H a (vi st) ∧ k ≤ 60 ∧ c ≤ 60 ∧ Sta k c st ∧ (∀ H' m, Same H H' → Bm k c st m → Q (.int (m : Int)) H') ∧ ∀ H', Same H H' → BmN k c st → Q .non H'
theorem ok_best_merge (TX : Tx K mg) : FnOk P w K mg base CX0 7 TX.a_best_merge TX.fd_best_merge ["state", "k", "c"] (sp_best_merge K) := by
  refine TX.f_best_merge.ok sc_best_merge (fun vs H Q E h => ?_) (fun cdv A outer s H vs Q E hr h => ?_)
  · obtain ⟨a, st, k, c, rfl, _⟩ := h; rfl
  · obtain ⟨a, st, k, c, rfl, hS, hk, hc, hst, q1, q2⟩ := h
    refine ⟨_, (pss_cons (ps_expr (pe_call (ok_check_state TX) (hr.mono (by decide)) (by rfl) TX.g_check_state TX.f_check_state.kp TX.bd_check_state .nil pass0 (pa_cons (pv 0) (pa_cons (pv 1) (pa_cons (pv 2) pa_nil)))))
      (pss_cut (ps_set (i := 3) sc_best_merge.nd rfl (.inl rfl) (pe_ifExp (pt_cmpR op_lt (pe_callB (id := "len") (k_len (K := K) rfl) (by rfl) TX.b_len (by decide +kernel) (pa_cons (pv 0) pa_nil)) (pv 1) (nomark _)) pe_int pe_int))
      (pss_cons (ps_set (i := 4) sc_best_merge.nd rfl (.inl rfl) (pe_op (k_catT (K := K) rfl) (pe_tup (pa_cons (pv 2) pa_nil)) (pv 0)))
      (pss_cons (ps_for PassesOwn.never rfl (pi_range2 (by rfl) TX.b_range (pa_cons (pv 3) (pa_cons (pe_op op_add (pe_callB (id := "len") (k_len (K := K) rfl) (by rfl) TX.b_len (by decide +kernel) (pa_cons (pv 0) pa_nil)) pe_int) pa_nil))) (pg_name (i := 5) sc_best_merge.nd rfl (.inl rfl))
        (pss_cons (ps_set (i := 6) sc_best_merge.nd rfl (.inl rfl) (pe_op op_sub (pe_callB (id := "len") (k_len (K := K) rfl) (by rfl) TX.b_len (by decide +kernel) (pa_cons (pv 0) pa_nil)) (pv 5)))
        (pss_one (ps_if (pt_cmpR op_lt (pe_callBK (id := "max") (cr_maxDef (K := K) rfl rfl hr.units) (by rfl) TX.b_max (by decide +kernel) (pa_cons (pe_slice (k_slT (K := K) rfl) (pv 0) (po_some (pv 6)) po_none) pa_nil) (pk_cons pe_int pk_nil)) (pe_ix (k_ixT (K := K) rfl) (pv 4) (pv 6) (fun _ _ => rfl)) (nomark _))
          (pss_one (ps_ret (pv 5)))
          pss_nil))))
      (pss_one (ps_ret pe_non)))))), ?_⟩
    have hl := hst.1
    refine ⟨.ref a, rfl, _, rfl, _, rfl, a, st, k, c, rfl, hS, hk, hc, hst, fun H1 s1 => ?_⟩
    have h1 := Same.tup s1 hS
    refine ⟨fun σ' H2 => H2 = H1 ∧ σ' = [some (.ref a), some (.int (k : Int)), some (.int (c : Int)), some (.int (few k st : Int)), none, none, none], ?_, ?_⟩
    · refine ⟨.ref a, rfl, a, _, rfl, .inr h1, _, rfl, _, _, rfl, rfl, _, rfl, ?_⟩
      by_cases hlt : st.length < k
      · exact decT (by rw [vi_len]; omega) ⟨rfl, by rw [few, if_pos hlt]; rfl⟩
      · exact decF (by rw [vi_len]; omega) ⟨rfl, by rw [few, if_neg hlt]; rfl⟩
    · rintro σ' H2 ⟨rfl, rfl⟩
      refine ⟨_, rfl, sz60 (by simp), fun t nt => ⟨.ref a, rfl, ?_⟩⟩
      have s3 := same_upd (o := .tup [V.int (c : Int)]) nt
      refine cat_read (.inl (.inl upd_same)) (Same.tup s3 h1) (by simp [vi]; omega) fun b H4 s4 h4 => ?_
      have hb : SqT K H4 b (vi (c :: st)) := h4
      have sF := s1.trans (s3.trans s4)
      have g4 := Same.tup sF hS
      have hf : few k st ≤ 1 := by unfold few; split <;> omega
      refine ⟨_, rfl, .ref a, rfl, a, _, rfl, .inr g4, _, _, rfl, rfl, _, _, rfl, ⟨by omega, by omega, by rw [vi_len]; omega, by rw [vi_len]; omega⟩, ?_⟩
      refine for_range (lo := (few k st : Int)) (n := (((vi st).length : Int) + 1 - (few k st : Int)).toNat) (fun i σ H' => Same H H' ∧ SqT K H' b (vi (c :: st)) ∧ (∃ y5 y6, σ = [some (.ref a), some (.int (k : Int)), some (.int (c : Int)), some (.int (few k st : Int)), some (.ref b), y5, y6]) ∧ ∀ m', few k st ≤ m' → m' < few k st + i → ¬ tst c st m') ⟨sF, hb, ⟨_, _, rfl⟩, by omega⟩ ?_ ?_
      · rintro i σ H5 hi ⟨s5, h5, ⟨y5, y6, rfl⟩, hno⟩
        rw [vi_len] at hi
        have g5 := Same.tup s5 hS
        obtain ⟨m, em, hm1, hm2⟩ : ∃ m : Nat, (few k st : Int) + (i : Int) = (m : Int) ∧ m = few k st + i ∧ m ≤ st.length := ⟨few k st + i, by omega, rfl, by omega⟩
        rw [em]
        refine ⟨.ref a, rfl, a, _, rfl, .inr g5, _, rfl, _, _, rfl, rfl, ?_⟩
        have eK : ((vi st).length : Int) - (m : Int) = ((st.length - m : Nat) : Int) := by rw [vi_len]; omega
        dsimp only
        rw [eK]
        refine ⟨.ref a, rfl, _, rfl, _, rfl, ?_⟩
        dsimp only [tNoPart]
        refine sl_read g5 fun c2 H6 s6 h6 => ?_
        rw [cutV_from (by omega)] at h6
        have h5' := Same.tup s6 h5
        have hj : (c :: st)[st.length - m]? = some (bnd c st (st.length - m)) := by
          unfold bnd
          rw [List.getD_eq_getElem?_getD, List.getElem?_eq_getElem (show st.length - m < (c :: st).length by rw [List.length_cons]; omega)]
          rfl
        dsimp only [tNil, tCons, tC]
        refine mxdef_read h6 ?_
        refine ⟨.ref b, rfl, _, rfl, b, _, _, _, rfl, rfl, h5', at_vi hj, _, _, rfl, rfl, _, rfl, ?_⟩
        by_cases ht : tst c st m
        · refine decT (by unfold tst at ht; omega) ⟨_, rfl, q1 _ _ (s5.trans s6) ⟨by omega, hm2, ht, fun m' a1 a2 => hno m' a1 (by omega)⟩⟩
        · refine decF (by unfold tst at ht; omega) ⟨s5.trans s6, h5', ⟨_, _, rfl⟩, fun m' a1 a2 => ?_⟩
          by_cases e : m' = m
          · rw [e]; exact ht
          · exact hno m' a1 (by omega)
      · rintro σ H5 ⟨s5, h5, ⟨y5, y6, rfl⟩, hno⟩
        rw [vi_len] at hno
        exact q2 _ s5 fun m a1 a2 => hno m a1 (by omega)
end
section
variable {P : Program} {w : World} {K : PySem.W.Frag} {mg : Str → Option Value} {base : Heap}
def sp_L_s5_after (K : PySem.W.Frag) : Sp := fun vs H Q _ => ∃ (a : Addr) (st : List Nat) (m : Nat), vs = [.ref a, .int (m : Int)] ∧ SqT K H a (vi st) ∧ m ≤ st.length ∧ st.length ≤ 1000 ∧ ∀ H' p, Same H H' → SqT K H' p (vi (sa st m)) → Q (.ref p) H'
theorem mx_take {xs : List Nat} {i x : Nat} (h : xs[i]? = some x) : mx (xs.take (i + 1)) = max (mx (xs.take i)) x := by
  rw [List.take_add_one, h, mx_append]
  simp [mx]
theorem ok_L_s5_after (TX : Tx K mg) : FnOk P w K mg base CX0 1 TX.a_L_s5_after TX.fd_L_s5_after ["_law_levels", "_law_taken"] (sp_L_s5_after K) := by
  refine TX.f_L_s5_after.ok sc_L_s5_after (fun vs H Q E h => ?_) (fun cdv A outer s H vs Q E hr h => ?_)
  · obtain ⟨a, st, m, rfl, _⟩ := h; rfl
  · obtain ⟨a, st, m, rfl, hS, hm, hl, q⟩ := h
    refine ⟨_, (pss_cons (ps_set (i := 2) sc_L_s5_after.nd rfl (.inl rfl) pe_int)
      (pss_cons (ps_for PassesOwn.never rfl (k_piT (K := K) rfl (pe_slice (k_slT (K := K) rfl) (pv 0) (po_some (pe_op op_sub (pe_callB (id := "len") (k_len (K := K) rfl) (by rfl) TX.b_len (by decide +kernel) (pa_cons (pv 0) pa_nil)) (pv 1))) po_none)) (pg_name (i := 3) sc_L_s5_after.nd rfl (.inl rfl))
        (pss_one (ps_set (i := 2) sc_L_s5_after.nd rfl (.inl rfl) (pe_callB (id := "max") (call_max2 rfl) (by rfl) TX.b_max (by decide +kernel) (pa_cons (pv 2) (pa_cons (pv 3) pa_nil))))))
      (pss_one (ps_ret (pe_op (k_catT (K := K) rfl) (pe_slice (k_slT (K := K) rfl) (pv 0) po_none (po_some (pe_op op_sub (pe_callB (id := "len") (k_len (K := K) rfl) (by rfl) TX.b_len (by decide +kernel) (pa_cons (pv 0) pa_nil)) (pv 1)))) (pe_tup (pa_cons (pe_op op_add (pv 2) pe_int) pa_nil))))))), ?_⟩
    have eK : ((vi st).length : Int) - (m : Int) = ((st.length - m : Nat) : Int) := by rw [vi_len]; omega
    refine ⟨.ref a, rfl, .ref a, rfl, a, _, rfl, .inr hS, _, rfl, _, _, rfl, rfl, _, rfl, ?_⟩
    unfold tNoPart
    refine sl_read hS fun c1 H1 s1 h1 => ?_
    rw [eK, cutV_from (by omega)] at h1
    refine ⟨c1, rfl, ⟨_, h1⟩, for_tup (K := K) (xs := vi (st.drop (st.length - m))) (fun i σ H' => H' = H1 ∧ ∃ y3, σ = [some (.ref a), some (.int (m : Int)), some (.int ((mx ((st.drop (st.length - m)).take i) : Nat) : Int)), y3]) ⟨rfl, none, rfl⟩ (fun i σ H' _ h => by rw [h.1]; exact h1) ?_ ?_⟩
    · rintro i x σ H' hx ⟨rfl, y3, rfl⟩
      rw [vi, List.getElem?_map] at hx
      cases hc : (st.drop (st.length - m))[i]? with
      | none => rw [hc] at hx; cases hx
      | some z =>
        rw [hc] at hx
        cases hx
        refine ⟨_, rfl, _, rfl, _, _, rfl, rfl, some (.int (z : Int)), ?_⟩
        rw [mx_take hc, ← max_nat]
        rfl
    · rintro σ H' ⟨rfl, y3, rfl⟩
      rw [List.take_of_length_le (by rw [vi_len]; omega)]
      refine ⟨.ref a, rfl, .ref a, rfl, a, _, rfl, .inr (Same.tup s1 hS), _, rfl, _, _, rfl, rfl, _, rfl, ?_⟩
      dsimp only
      rw [eK]
      refine sl_read (Same.tup s1 hS) fun c2 H2 s2 h2 => ?_
      rw [cutV_to (by omega)] at h2
      refine ⟨_, rfl, _, _, rfl, rfl, sz60 (by simp), fun t nt => ?_⟩
      have s3 := same_upd (o := .tup [V.int (((mx (st.drop (st.length - m)) : Nat) : Int) + 1)]) nt
      refine cat_read (Same.tup s3 h2) (.inl (.inl upd_same)) (by simp [vi]; omega) fun p H4 s4 h4 => q H4 p (s1.trans (s2.trans (s3.trans s4))) ?_
      unfold sa
      rw [vi_app]
      have e : vi [1 + mx (st.drop (st.length - m))] = [V.int (((mx (st.drop (st.length - m)) : Nat) : Int) + 1)] := by
        simp [vi]; omega
      rw [e]; exact h4
def sp_L_s5_fits (K : PySem.W.Frag) : Sp := fun vs H Q _ => ∃ (a : Addr) (st : List Nat) (k c : Nat), vs = [.ref a, .int (k : Int), .int (c : Int)] ∧ SqT K H a (vi st) ∧ st.length ≤ 1000 ∧ (∀ x, x ∈ st → 1 ≤ x) ∧ ∀ H', Same H H' → Q (.bl (isSta k c st)) H'
theorem ok_L_s5_fits (TX : Tx K mg) : FnOk P w K mg base CX0 1 TX.a_L_s5_fits TX.fd_L_s5_fits ["_law_levels", "_law_room", "_law_wear"] (sp_L_s5_fits K) := by
  refine TX.f_L_s5_fits.ok sc_L_s5_fits (fun vs H Q E h => ?_) (fun cdv A outer s H vs Q E hr h => ?_)
  · obtain ⟨a, st, k, c, rfl, _⟩ := h; rfl
  · obtain ⟨a, st, k, c, rfl, hS, hl, hpos, q⟩ := h
    refine ⟨_, (pss_one (ps_ret (pe_and (pe_cmpR op_le (pe_callB (id := "len") (k_len (K := K) rfl) (by rfl) TX.b_len (by decide +kernel) (pa_cons (pv 0) pa_nil)) (pv 1) (nomark _)) (pe_one (pe_callB (id := "all") (cr_all rfl) (by rfl) TX.b_all (by decide +kernel) (pa_cons (pe_lc (own := [("_law_element", 3)]) (by rfl) sc_L_s5_fits.nd (k_piT (K := K) rfl (pv 0)) (blkOk_by (own := [("_law_element", 3)]) (N := N_L_s5_fits) (sc := defScope s_L_s5_fits) (by decide +kernel)) (fun _ _ _ _ _ => (pg_name (i := 3) sc_L_s5_fits.nd rfl (Or.inl rfl))) (fun _ _ _ _ _ => pts_nil) (fun _ _ _ _ _ => (pe_cmpR op_le (pv 3) (pv 2) (nomark _)))) pa_nil)))))), ?_⟩
    refine ⟨.ref a, rfl, a, _, rfl, .inr hS, _, rfl, _, _, rfl, rfl, ?_⟩
    by_cases hlk : st.length ≤ k
    · refine ⟨true, blT (by rw [vi_len]; omega), iteT ?_⟩
      refine ⟨.ref a, rfl, a, rfl, ⟨_, hS⟩, fun D nD => lc_bools (K := K) walk_tup (st.map fun x => decide (1 ≤ x) && decide (x ≤ c)) (by rw [List.length_map, vi_len]) (by rw [vi_len]; omega) nD (fun H' s' => Same.tup s' hS) ?_ ?_ (fun x σ' H' Q Q' h => h _ _) (fun σ' H' Q Q' h => h _ _)⟩
      · rintro i x H2 H2' hi s2 ⟨rfl, hx⟩ b hb R hR
        have hi' : i < st.length := by rwa [vi_len] at hi
        have hg := List.getElem?_eq_getElem hi'
        rw [vi_get hg] at hx
        cases hx
        rw [List.getElem?_map, hg] at hb
        cases hb
        have hR' := hR H2' (Same.refl _)
        dsimp only at hR'
        rw [decide_eq_true (hpos _ (List.getElem_mem hi')), Bool.true_and] at hR'
        refine ⟨rfl, rfl, _, rfl, _, rfl, _, _, rfl, rfl, ?_⟩
        by_cases g2 : st[i] ≤ c
        · rw [decide_eq_true g2, ← blT (show ((st[i] : Nat) : Int) ≤ (c : Int) by omega)] at hR'
          exact hR'
        · rw [decide_eq_false g2, ← blF (show ¬ ((st[i] : Nat) : Int) ≤ (c : Int) by omega)] at hR'
          exact hR'
      · intro H2 s2 hD
        refine ⟨D, _, rfl, .inl (.inl hD), ?_⟩
        have := q H2 s2
        unfold isSta at this
        rw [decide_eq_true hlk, Bool.true_and] at this
        rw [List.all_map]
        exact this
    · refine ⟨false, blF (by rw [vi_len]; omega), iteF ?_⟩
      have := q H (Same.refl _)
      unfold isSta at this
      rw [decide_eq_false hlk, Bool.false_and] at this
      exact this
def dPr (st : List Nat) (m : Nat) : PyData := .tuple [.int (m : Int), .tuple ((ci (sa st m)).map PyData.int)]
theorem tf_dPr (st : List Nat) (m : Nat) : Tf (dPr st m) := .tup fun d h => by
  rcases List.mem_cons.mp h with h | h
  · rw [h]; exact .int _
  · rcases List.mem_cons.mp h with h | h
    · rw [h]; exact .tup (tf_ints _)
    · cases h
/-- the merges within the budgets -/
def nxt (k c : Nat) (st : List Nat) : List Nat := (List.range (st.length + 1)).filter fun m => isSta k c (sa st m)
theorem dPr_inv {K : PySem.W.Frag} {H : Hp} {x : V} {st : List Nat} {m : Nat} (h : Dp K H x (dPr st m)) : ∃ t b, x = .ref t ∧ SqT K H t [.int (m : Int), .ref b] ∧ SqT K H b (vi (sa st m)) := by
  obtain ⟨t, xs, rfl, h1, h2⟩ := Dp.tupInv h
  cases h2 with
  | cons a b =>
    cases a
    cases b with
    | cons a b =>
      cases b
      obtain ⟨b, rfl, hb⟩ := Dp.intsInv a
      exact ⟨t, b, rfl, h1, by rw [vi_ci]; exact hb⟩
theorem sa_pos {st : List Nat} {m : Nat} (h : ∀ x, x ∈ st → 1 ≤ x) : ∀ x, x ∈ sa st m → 1 ≤ x := fun x hx => by
  unfold sa at hx
  rcases List.mem_append.mp hx with hx | hx
  · exact h x (List.mem_of_mem_take hx)
  · have : x = 1 + mx (st.drop (st.length - m)) := by simpa using hx
    omega
def sp_L_s5_next (K : PySem.W.Frag) : Sp := fun vs H Q _ => ∃ (a : Addr) (st : List Nat) (k c : Nat), vs = [.ref a, .int (k : Int), .int (c : Int)] ∧ SqT K H a (vi st) ∧ st.length ≤ 100 ∧ (∀ x, x ∈ st → 1 ≤ x) ∧ ∀ H' p ys, Same H H' → H' p = some (.lst ys) → DpAll K H' ys ((nxt k c st).map (dPr st)) → Q (.ref p) H'
theorem ok_L_s5_next (TX : Tx K mg) : FnOk P w K mg base CX0 2 TX.a_L_s5_next TX.fd_L_s5_next ["_law_levels", "_law_room", "_law_wear"] (sp_L_s5_next K) := by
  refine TX.f_L_s5_next.ok sc_L_s5_next (fun vs H Q E h => ?_) (fun cdv A outer s H vs Q E hr h => ?_)
  · obtain ⟨a, st, k, c, rfl, _⟩ := h; rfl
  · obtain ⟨a, st, k, c, rfl, hS, hl, hpos, q⟩ := h
    refine ⟨_, (pss_cons (ps_setLc (i := 3) (own := [("_law_taken", 4)]) (by rfl) sc_L_s5_next.nd rfl rfl (sw_true rfl rfl rfl (by decide +kernel)) (pi_range1 (by rfl) TX.b_range (pa_cons (pe_op op_add (pe_callB (id := "len") (k_len (K := K) rfl) (by rfl) TX.b_len (by decide +kernel) (pa_cons (pv 0) pa_nil)) pe_int) pa_nil)) (blkOk_by (own := [("_law_taken", 4)]) (N := N_L_s5_next) (sc := defScope s_L_s5_next) (by decide +kernel)) (fun _ _ _ _ _ => (pg_name (i := 4) sc_L_s5_next.nd rfl (Or.inl rfl))) (fun _ _ _ _ _ => pts_nil) (fun _ _ _ _ _ => (pe_tup (pa_cons (pv 4) (pa_cons (pe_call (ok_L_s5_after TX) (hr.mono (by decide)) (by rfl) TX.g_L_s5_after TX.f_L_s5_after.kp TX.bd_L_s5_after .nil pass0 (pa_cons (pv 0) (pa_cons (pv 4) pa_nil))) pa_nil)))))
      (pss_one (ps_ret (pe_lc (own := [("_law_taken", 4), ("_law_after", 5)]) (by rfl) sc_L_s5_next.nd (k_piL (K := K) rfl (pv 3)) (blkOk_by (own := [("_law_taken", 4), ("_law_after", 5)]) (N := N_L_s5_next) (sc := defScope s_L_s5_next) (by decide +kernel)) (fun _ _ _ _ _ => (k_pgT2 (K := K) rfl rfl (pg_name (i := 4) sc_L_s5_next.nd rfl (Or.inl rfl)) (pg_name (i := 5) sc_L_s5_next.nd rfl (Or.inl rfl)))) (fun _ _ _ _ _ => (pts_one (pt_val (pe_call (ok_L_s5_fits TX) (hr.mono (by decide)) (by rfl) TX.g_L_s5_fits TX.f_L_s5_fits.kp TX.bd_L_s5_fits .nil pass0 (pa_cons (pv 5) (pa_cons (pv 1) (pa_cons (pv 2) pa_nil))))))) (fun _ _ _ _ _ => (pe_tup (pa_cons (pv 4) (pa_cons (pv 5) pa_nil)))))))), ?_⟩
    refine ⟨.ref a, rfl, a, _, rfl, .inr hS, _, _, rfl, rfl, _, rfl, by rw [vi_len]; omega, by rw [vi_len]; omega, fun D nD => ?_⟩
    have eN : (((vi st).length : Int) + 1).toNat = st.length + 1 := by rw [vi_len]; omega
    refine lc_all (K := K) walk_range ((List.range (st.length + 1)).map (dPr st)) (by rw [List.length_map, List.length_range]; exact eN.symm) (fun d h => by obtain ⟨m, _, rfl⟩ := List.mem_map.mp h; exact tf_dPr _ _) (by rw [eN]; omega) nD (fun _ _ => trivial) ?_ ?_ (fun x σ' H' Q Q' h => h _ _) (fun σ' H' Q Q' h => h _ _)
    · rintro i x H2 H2' hi s2 ⟨rfl, rfl⟩ d hd R hR
      rw [eN] at hi
      rw [List.getElem?_map, List.getElem?_range hi] at hd
      cases hd
      refine ⟨rfl, rfl, _, rfl, .ref a, rfl, _, rfl, a, st, i, ?_, Same.tup s2 hS, by omega, by omega, fun H3 p s3 h3 => ⟨sz60 (by simp), fun t nt => ?_⟩⟩
      · show [V.ref a, V.int _] = [V.ref a, V.int _]
        rw [show (0 : Int) + (i : Int) = (i : Int) by omega]
      · have e0 : (0 : Int) + (i : Int) = (i : Int) := by omega
        have s4 := same_upd (o := .tup [V.int (0 + (i : Int)), V.ref p]) nt
        refine hR _ _ (s3.trans s4) (.tup (.inl (.inl upd_same)) (.cons ?_ (.cons ?_ .nil)))
        · show Dp K (upd H3 t (HO.tup [V.int (0 + (i : Int)), V.ref p])) (V.int (0 + (i : Int))) (PyData.int (i : Int))
          rw [e0]; exact .int _
        · rw [vi_ci] at h3
          exact dp_tup (Same.tup s4 h3)
    · intro H2 acc s2 ha hA
      have hA' : DpAll K H2 acc ((List.range (st.length + 1)).map (dPr st)) := hA
      have hal : acc.length = st.length + 1 := by rw [DpAll.len hA', List.length_map, List.length_range]
      refine ⟨.ref D, rfl, D, rfl, ⟨_, .inl (.inl ha)⟩, fun D2 nD2 => ?_⟩
      refine lc_sel (K := K) (walk_list (xs := acc)) (fun m => isSta k c (sa st m)) (dPr st) (fun m _ => tf_dPr _ _) (by omega) nD2 (fun H' s' => .inl (.inl (s' _ _ ha))) ?_ ?_ mono_pair (fun σ' H' Q Q' h e => by
        obtain ⟨v1, e1, v2, e2, v3, e3, a', st', k', c', f1, f2, f3, f4, f5⟩ := e
        exact ⟨v1, e1, v2, e2, v3, e3, a', st', k', c', f1, f2, f3, f4, fun H4 s4 => let ⟨b, g1, g2⟩ := f5 H4 s4; ⟨b, g1, h _ _ g2⟩⟩)
      · rintro i x H3 H3' hi s3 ⟨rfl, hx⟩ R hR
        have hi' : i < st.length + 1 := by omega
        obtain ⟨v, hv, hd⟩ := DpAll.get hA' (i := i) (d := dPr st i) (by rw [List.getElem?_map, List.getElem?_range hi']; rfl)
        rw [hv] at hx
        cases hx
        obtain ⟨t, b, rfl, ht, hb⟩ := dPr_inv hd
        have ht3 := Same.tup s3 ht
        have hb3 := Same.tup s3 hb
        refine ⟨t, _, rfl, ht3, rfl, _, _, rfl, _, _, rfl, rfl, rfl, ?_⟩
        refine ⟨.ref b, rfl, _, rfl, _, rfl, b, _, k, c, rfl, hb3, by rw [sa_len (by omega)]; omega, sa_pos hpos, fun H4 s4 => ⟨_, rfl, rfl, s4, fun _ => ?_⟩⟩
        refine ⟨_, rfl, .ref b, rfl, sz60 (by simp), fun u nu => ?_⟩
        have s5 := same_upd (o := .tup [V.int (i : Int), V.ref b]) nu
        refine hR _ _ (s4.trans s5) (.tup (.inl (.inl upd_same)) (.cons (.int _) (.cons ?_ .nil)))
        rw [vi_ci] at hb3
        exact dp_tup (Same.tup (s4.trans s5) hb3)
      · intro H3 acc2 s3 ha2 hA2
        refine q H3 D2 acc2 (s2.trans s3) ha2 ?_
        rw [hal] at hA2
        exact hA2
end
/-! ### counts by a simulation of the runs -/
/-- the dict of counts, its keys 0 .. n - 1 in their order -/
def kl (n : Nat) (f : Nat → Nat) : List (L2.Key × V) := (List.range n).map fun (j : Nat) => ((.inl (j : Int) : L2.Key), V.int (f j : Int))
theorem kl_len (n : Nat) (f : Nat → Nat) : (kl n f).length = n := by simp [kl]
theorem kl_succ (n : Nat) (f : Nat → Nat) : kl (n + 1) f = kl n f ++ [((.inl (n : Int) : L2.Key), V.int (f n : Int))] := by
  unfold kl
  rw [List.range_succ, List.map_append]
  rfl
theorem kl_congr {n : Nat} {f g : Nat → Nat} (h : ∀ j, j < n → f j = g j) : kl n f = kl n g := by
  unfold kl
  refine List.map_congr_left fun j hj => ?_
  rw [h j (List.mem_range.mp hj)]
theorem key_ne {m n : Nat} (h : m ≠ n) : ¬ ((.inl (m : Int) : L2.Key) = .inl (n : Int)) := fun e => h (by injection e with e; omega)
theorem kl_val (f : Nat → Nat) : ∀ (n m : Nat), valV (kl n f) (.inl (m : Int) : L2.Key) = if m < n then some (V.int (f m : Int)) else none
  | 0, m => by rw [if_neg (by omega)]; rfl
  | n + 1, m => by
    have h0 : valV (kl n f) (.inl (n : Int) : L2.Key) = none := by rw [kl_val f n n, if_neg (by omega)]
    rw [kl_succ, valV_snoc _ _ _ _ h0]
    by_cases e : m = n
    · subst e
      rw [if_pos rfl, if_pos (by omega)]
    · rw [if_neg (key_ne e), kl_val f n m]
      by_cases h : m < n
      · rw [if_pos h, if_pos (by omega)]
      · rw [if_neg h, if_neg (by omega)]
theorem kl_get {n m : Nat} (f : Nat → Nat) (h : m < n) : (kl n f)[m]? = some ((.inl (m : Int) : L2.Key), V.int (f m : Int)) := by
  unfold kl
  rw [List.getElem?_map, List.getElem?_range h]
  rfl
def bumps (f : Nat → Nat) (ms : List Nat) : Nat → Nat := fun j => f j + ms.count j
theorem bumps_nil (f : Nat → Nat) : bumps f [] = f := by funext j; simp [bumps]
theorem bumps_snoc (f : Nat → Nat) (ms : List Nat) (m : Nat) : bumps f (ms ++ [m]) = fun j => if j = m then bumps f ms m + 1 else bumps f ms j := by
  funext j
  unfold bumps
  rw [List.count_append]
  by_cases e : j = m
  · subst e
    rw [if_pos rfl]
    simp
    omega
  · rw [if_neg e]
    have : List.count j [m] = 0 := List.count_eq_zero.mpr (by simpa using e)
    omega
theorem kl_put_old {n m : Nat} {f : Nat → Nat} {v : Nat} (h : m < n) : putK (kl n f) (.inl (m : Int) : L2.Key) (V.int (v : Int)) = kl n (fun j => if j = m then v else f j) := by
  unfold putK
  rw [if_pos (by rw [valV_any, kl_val, if_pos h]; rfl)]
  unfold kl
  rw [List.map_map]
  refine List.map_congr_left fun j hj => ?_
  show (if ((.inl (j : Int) : L2.Key) = .inl (m : Int)) then ((.inl (j : Int) : L2.Key), V.int (v : Int)) else ((.inl (j : Int) : L2.Key), V.int (f j : Int))) = ((.inl (j : Int) : L2.Key), V.int (((if j = m then v else f j) : Nat) : Int))
  by_cases e : j = m
  · subst e
    rw [if_pos rfl, if_pos rfl]
  · rw [if_neg (key_ne e), if_neg e]
theorem kl_put_new {n : Nat} {f : Nat → Nat} {v : Nat} : putK (kl n f) (.inl (n : Int) : L2.Key) (V.int (v : Int)) = kl (n + 1) (fun j => if j = n then v else f j) := by
  rw [putK_new _ (by rw [kl_val, if_neg (by omega)]), kl_succ, if_pos rfl]
  congr 1
  refine kl_congr fun j hj => ?_
  rw [if_neg (by omega)]
/-- a run's greatest count -/
def lev (f : Nat → Nat) (r : List Nat) : Nat := mx (r.map f)
/-- the runs as lists of flushes, how often each flush's data has been written, and the state -/
structure Prof (i : Nat) (R : List (List Nat)) (f : Nat → Nat) (s : List Nat) : Prop where
  cnt : ∀ j, R.flatten.count j = if j < i then 1 else 0
  lv : s = R.map (lev f)
  ne : ∀ r, r ∈ R → r ≠ []
  new : ∀ j, i ≤ j → f j = 0
  len : R.flatten.length = i
theorem Prof.zero : Prof 0 [] (fun _ => 0) [] := ⟨fun j => by simp, rfl, fun r h => (nomatch h), fun _ _ => rfl, rfl⟩
theorem Prof.rl {i : Nat} {R : List (List Nat)} {f : Nat → Nat} {s : List Nat} (h : Prof i R f s) : R.length = s.length := by rw [h.lv, List.length_map]
theorem Prof.lt {i : Nat} {R : List (List Nat)} {f : Nat → Nat} {s : List Nat} (h : Prof i R f s) {r : List Nat} {j : Nat} (hr : r ∈ R) (hj : j ∈ r) : j < i := by
  have h0 : j ∈ R.flatten := List.mem_flatten.mpr ⟨r, hr, hj⟩
  have h1 := List.count_pos_iff.mpr h0
  rw [h.cnt] at h1
  split at h1 <;> omega
theorem count_rev (j : Nat) : ∀ l : List (List Nat), l.reverse.flatten.count j = l.flatten.count j
  | [] => rfl
  | x :: l => by
    rw [List.reverse_cons, List.flatten_append, List.count_append, count_rev j l]
    simp only [List.flatten_cons, List.flatten_nil, List.append_nil, List.count_append]
    omega
theorem len_rev : ∀ l : List (List Nat), l.reverse.flatten.length = l.flatten.length
  | [] => rfl
  | x :: l => by
    rw [List.reverse_cons, List.flatten_append, List.length_append, len_rev l]
    simp only [List.flatten_cons, List.flatten_nil, List.append_nil, List.length_append]
    omega
theorem mem_rev {j : Nat} {l : List (List Nat)} : j ∈ l.reverse.flatten ↔ j ∈ l.flatten := by
  simp only [List.mem_flatten, List.mem_reverse]
theorem len_in : ∀ {R : List (List Nat)} {r : List Nat}, r ∈ R → r.length ≤ R.flatten.length
  | x :: R, r, h => by
    rw [List.flatten_cons, List.length_append]
    rcases List.mem_cons.mp h with e | h
    · rw [e]; omega
    · have := len_in h; omega
theorem len_le : ∀ {R : List (List Nat)}, (∀ r, r ∈ R → r ≠ []) → R.length ≤ R.flatten.length
  | [], _ => Nat.zero_le _
  | x :: R, h => by
    have h1 := len_le (R := R) fun r hr => h r (List.mem_cons_of_mem _ hr)
    have h2 : x ≠ [] := h x (List.mem_cons_self ..)
    have h3 : 0 < x.length := List.length_pos_iff.mpr h2
    rw [List.flatten_cons, List.length_append, List.length_cons]
    omega
/-- the run that flush i writes out of the runs l -/
def mrg (l : List (List Nat)) (i : Nat) : List Nat := l.reverse.flatten ++ [i]
theorem mrg_succ {l : List (List Nat)} {t : Nat} {x : List Nat} (i : Nat) (h : l[t]? = some x) : mrg (l.take (t + 1)) i = x ++ mrg (l.take t) i := by
  unfold mrg
  rw [List.take_add_one, h]
  show (l.take t ++ [x]).reverse.flatten ++ [i] = _
  rw [List.reverse_append]
  simp
theorem Prof.step {i m : Nat} {R : List (List Nat)} {f : Nat → Nat} {s : List Nat} (h : Prof i R f s) (hm : m ≤ R.length) :
    Prof (i + 1) (R.take (R.length - m) ++ [mrg (R.drop (R.length - m)) i]) (bumps f (mrg (R.drop (R.length - m)) i)) (sa s m) := by
  have hR := h.rl
  have hs := h.lv
  have hcut : R = R.take (R.length - m) ++ R.drop (R.length - m) := (List.take_append_drop _ _).symm
  obtain ⟨A, hA⟩ : ∃ A, A = R.take (R.length - m) := ⟨_, rfl⟩
  obtain ⟨B, hB⟩ : ∃ B, B = R.drop (R.length - m) := ⟨_, rfl⟩
  rw [← hA, ← hB] at hcut
  rw [← hA, ← hB]
  have cAB : ∀ j, A.flatten.count j + B.flatten.count j = if j < i then 1 else 0 := fun j => by
    have := h.cnt j
    rw [hcut, List.flatten_append, List.count_append] at this
    exact this
  have cM : ∀ j, (mrg B i).count j = B.flatten.count j + if j = i then 1 else 0 := fun j => by
    unfold mrg
    rw [List.count_append, count_rev]
    by_cases e : j = i
    · subst e; simp
    · rw [if_neg e]
      have : List.count j [i] = 0 := List.count_eq_zero.mpr (by simpa using e)
      omega
  have hBi : ∀ r, r ∈ B → ∀ j, j ∈ r → j < i := fun r hr j hj => h.lt (r := r) (by rw [hcut]; exact List.mem_append_right _ hr) hj
  have hAi : ∀ r, r ∈ A → ∀ j, j ∈ r → j < i := fun r hr j hj => h.lt (r := r) (by rw [hcut]; exact List.mem_append_left _ hr) hj
  refine ⟨fun j => ?_, ?_, fun r hr => ?_, fun j hj => ?_, ?_⟩
  · rw [List.flatten_append, List.count_append]
    have h1 := cAB j
    have h2 := cM j
    simp only [List.flatten_cons, List.flatten_nil, List.append_nil]
    rw [h2]
    by_cases e : j = i
    · subst e
      rw [if_neg (by omega)] at h1
      rw [if_pos rfl, if_pos (by omega)]; omega
    · rw [if_neg e]
      by_cases l : j < i
      · rw [if_pos l] at h1; rw [if_pos (by omega)]; omega
      · rw [if_neg l] at h1; rw [if_neg (by omega)]; omega
  · -- the levels
    have hsl : s.length - m = R.length - m := by omega
    have e1 : s.take (s.length - m) = A.map (lev f) := by rw [hsl, hs, ← List.map_take, ← hA]
    have e2 : s.drop (s.length - m) = B.map (lev f) := by rw [hsl, hs, ← List.map_drop, ← hB]
    unfold sa
    rw [e1, e2, List.map_append]
    congr 1
    · refine List.map_congr_left fun r hr => ?_
      unfold lev
      congr 1
      refine List.map_congr_left fun j hj => ?_
      have hji := hAi r hr j hj
      have h1 := cAB j
      rw [if_pos hji] at h1
      have h2 : 0 < A.flatten.count j := List.count_pos_iff.mpr (List.mem_flatten.mpr ⟨r, hr, hj⟩)
      have h3 := cM j
      rw [if_neg (by omega)] at h3
      unfold bumps
      omega
    · show [1 + mx (B.map (lev f))] = [lev (bumps f (mrg B i)) (mrg B i)]
      congr 1
      have bB : ∀ r, r ∈ B → ∀ j, j ∈ r → bumps f (mrg B i) j = f j + 1 := fun r hr j hj => by
        have hji := hBi r hr j hj
        have h1 := cAB j
        rw [if_pos hji] at h1
        have h2 : 0 < B.flatten.count j := List.count_pos_iff.mpr (List.mem_flatten.mpr ⟨r, hr, hj⟩)
        have h3 := cM j
        rw [if_neg (by omega)] at h3
        unfold bumps
        omega
      have bi : bumps f (mrg B i) i = 1 := by
        have h1 := cAB i
        rw [if_neg (by omega)] at h1
        have h3 := cM i
        rw [if_pos rfl] at h3
        have := h.new i (Nat.le_refl _)
        unfold bumps
        omega
      have hi : 1 ≤ lev (bumps f (mrg B i)) (mrg B i) := by
        rw [← bi]
        exact mx_mem (List.mem_map.mpr ⟨i, by unfold mrg; simp, rfl⟩)
      refine Nat.le_antisymm ?_ ?_
      · have h1 : mx (B.map (lev f)) ≤ lev (bumps f (mrg B i)) (mrg B i) - 1 := mx_le fun x hx => by
          obtain ⟨r, hr, rfl⟩ := List.mem_map.mp hx
          refine mx_le fun y hy => ?_
          obtain ⟨j, hj, rfl⟩ := List.mem_map.mp hy
          have h2 : bumps f (mrg B i) j ≤ lev (bumps f (mrg B i)) (mrg B i) := mx_mem (List.mem_map.mpr ⟨j, by unfold mrg; exact List.mem_append_left _ (mem_rev.mpr (List.mem_flatten.mpr ⟨r, hr, hj⟩)), rfl⟩)
          rw [bB r hr j hj] at h2
          omega
        omega
      · refine mx_le fun x hx => ?_
        obtain ⟨j, hj, rfl⟩ := List.mem_map.mp hx
        unfold mrg at hj
        rcases List.mem_append.mp hj with hj | hj
        · obtain ⟨r, hr, hj⟩ := List.mem_flatten.mp (mem_rev.mp hj)
          rw [bB r hr j hj]
          have h1 : f j ≤ lev f r := mx_mem (List.mem_map.mpr ⟨j, hj, rfl⟩)
          have h2 : lev f r ≤ mx (B.map (lev f)) := mx_mem (List.mem_map.mpr ⟨r, hr, rfl⟩)
          omega
        · have e : j = i := by simpa using hj
          rw [e, bi]; omega
  · rcases List.mem_append.mp hr with hr | hr
    · exact h.ne r (by rw [hcut]; exact List.mem_append_left _ hr)
    · have e : r = mrg B i := by simpa using hr
      rw [e]; unfold mrg; simp
  · have h0 := h.new j (by omega)
    have h1 := cAB j
    rw [if_neg (by omega)] at h1
    have h3 := cM j
    rw [if_neg (by omega)] at h3
    unfold bumps
    omega
  · have := h.len
    rw [hcut, List.flatten_append, List.length_append] at this
    rw [List.flatten_append, List.length_append]
    simp only [List.flatten_cons, List.flatten_nil, List.append_nil]
    unfold mrg
    rw [List.length_append, len_rev]
    simp only [List.length_cons, List.length_nil]
    omega
theorem Prof.top {i : Nat} {R : List (List Nat)} {f : Nat → Nat} {s : List Nat} (h : Prof i R f s) : mx ((List.range i).map f) = mx s := by
  rw [h.lv]
  refine Nat.le_antisymm (mx_le fun x hx => ?_) (mx_le fun x hx => ?_)
  · obtain ⟨j, hj, rfl⟩ := List.mem_map.mp hx
    have hj := List.mem_range.mp hj
    have h1 := h.cnt j
    rw [if_pos hj] at h1
    obtain ⟨r, hr, hjr⟩ := List.mem_flatten.mp (List.count_pos_iff.mp (by omega : 0 < R.flatten.count j))
    have h2 : f j ≤ lev f r := mx_mem (List.mem_map.mpr ⟨j, hjr, rfl⟩)
    have h3 : lev f r ≤ mx (R.map (lev f)) := mx_mem (List.mem_map.mpr ⟨r, hr, rfl⟩)
    omega
  · obtain ⟨r, hr, rfl⟩ := List.mem_map.mp hx
    refine mx_le fun y hy => ?_
    obtain ⟨j, hj, rfl⟩ := List.mem_map.mp hy
    exact mx_mem (List.mem_map.mpr ⟨j, List.mem_range.mpr (h.lt hr hj), rfl⟩)
theorem mx_of {xs : List Nat} {m : Int} (h1 : m ∈ ci xs) (h2 : ∀ y, y ∈ ci xs → y ≤ m) : m = ((mx xs : Nat) : Int) := by
  obtain ⟨x, hx, rfl⟩ := List.mem_map.mp h1
  have a := mx_mem hx
  have b : mx xs ≤ x := mx_le fun y hy => by
    have := h2 (y : Int) (List.mem_map.mpr ⟨y, hy, rfl⟩)
    omega
  omega
/-- lists stay, the one at F aside -/
def LK (F : Addr) (G G' : Hp) : Prop := ∀ b xs, b ≠ F → G b = some (.lst xs) → G' b = some (.lst xs)
theorem LK.same {F : Addr} {G G' : Hp} (s : Same G G') : LK F G G' := fun b _ _ e => s b _ e
theorem LK.trans {F : Addr} {G G1 G2 : Hp} (a : LK F G G1) (b : LK F G1 G2) : LK F G G2 := fun c xs n e => b c xs n (a c xs n e)
theorem LK.dK {F D : Addr} {G : Hp} {kvs kvs' : List (L2.Key × V)} (h : G D = some (.dK kvs)) : LK F G (L2.upd G D (.dK kvs')) := fun b xs _ e => by
  rw [upd_ne (fun z => by rw [z, h] at e; cases e)]; exact e
theorem LK.upd {F : Addr} {G : Hp} {o : HO} : LK F G (L2.upd G F o) := fun b xs n e => by rw [upd_ne n]; exact e
theorem keep_dK {K : PySem.W.Frag} {D : Addr} {G : Hp} {kvs : List (L2.Key × V)} {o : HO} (h : G D = some (.dK kvs)) : Keep K G (L2.upd G D o) := fun a xs e => by
  rcases e with (e | ⟨u, e⟩) | e
  · exact .inl (.inl (by rw [upd_ne (fun z => by rw [z, h] at e; cases e)]; exact e))
  · exact .inl (.inr ⟨u, by rw [upd_ne (fun z => by rw [z, h] at e; cases e)]; exact e⟩)
  · exact .inr e
/-- runs as lists, none of them at F -/
inductive RunsL (G : Hp) (F : Addr) : List V → List (List Nat) → Prop
  | nil : RunsL G F [] []
  | cons {r : Addr} {x : List Nat} {vs : List V} {l : List (List Nat)} : G r = some (.lst (vi x)) → r ≠ F → RunsL G F vs l → RunsL G F (.ref r :: vs) (x :: l)
theorem RunsL.len {G : Hp} {F : Addr} : ∀ {vs : List V} {l : List (List Nat)}, RunsL G F vs l → vs.length = l.length
  | _, _, .nil => rfl
  | _, _, .cons _ _ b => by simp [RunsL.len b]
theorem RunsL.mono {G G' : Hp} {F : Addr} (s : LK F G G') : ∀ {vs : List V} {l : List (List Nat)}, RunsL G F vs l → RunsL G' F vs l
  | _, _, .nil => .nil
  | _, _, .cons a n b => .cons (s _ _ n a) n (RunsL.mono s b)
theorem RunsL.take {G : Hp} {F : Addr} : ∀ {vs : List V} {l : List (List Nat)} (n : Nat), RunsL G F vs l → RunsL G F (vs.take n) (l.take n)
  | _, _, 0, _ => .nil
  | _, _, _ + 1, .nil => .nil
  | _, _, n + 1, .cons a m b => .cons a m (RunsL.take n b)
theorem RunsL.drop {G : Hp} {F : Addr} : ∀ {vs : List V} {l : List (List Nat)} (n : Nat), RunsL G F vs l → RunsL G F (vs.drop n) (l.drop n)
  | _, _, 0, h => h
  | _, _, _ + 1, .nil => .nil
  | _, _, n + 1, .cons a m b => RunsL.drop n b
theorem RunsL.add {G : Hp} {F r : Addr} {x : List Nat} (h : G r = some (.lst (vi x))) (n : r ≠ F) : ∀ {vs : List V} {l : List (List Nat)}, RunsL G F vs l → RunsL G F (vs ++ [.ref r]) (l ++ [x])
  | _, _, .nil => .cons h n .nil
  | _, _, .cons a m b => .cons a m (RunsL.add h n b)
theorem RunsL.get {G : Hp} {F : Addr} : ∀ {vs : List V} {l : List (List Nat)}, RunsL G F vs l → ∀ {t : Nat} {v : V}, vs[t]? = some v → ∃ r x, v = .ref r ∧ l[t]? = some x ∧ G r = some (.lst (vi x)) ∧ r ≠ F
  | _, _, .nil, t, v, h => by simp at h
  | _, _, .cons (r := r) (x := x) a n b, 0, v, h => by
    simp at h; subst h
    exact ⟨r, x, rfl, rfl, a, n⟩
  | _, _, .cons a n b, t + 1, v, h => by
    obtain ⟨r, x, h1, h2, h3⟩ := RunsL.get b (t := t) (v := v) (by simpa using h)
    exact ⟨r, x, h1, by simpa using h2, h3⟩
/-- what a profile says of the first n flushes -/
def dPf (st : Nat → List Nat) (n : Nat) : List PyData := (List.range n).map fun i => PyData.tuple [.int ((mx (st (i + 1)) : Nat) : Int), .int (((st (i + 1)).length : Nat) : Int)]
theorem dPf_len (st : Nat → List Nat) (n : Nat) : (dPf st n).length = n := by simp [dPf]
theorem dPf_succ (st : Nat → List Nat) (n : Nat) : dPf st (n + 1) = dPf st n ++ [PyData.tuple [.int ((mx (st (n + 1)) : Nat) : Int), .int (((st (n + 1)).length : Nat) : Int)]] := by
  unfold dPf
  rw [List.range_succ, List.map_append]; rfl
theorem dPf_at {st : Nat → List Nat} {n i : Nat} (h : i < n) : (dPf st n)[i]? = some (PyData.tuple [.int ((mx (st (i + 1)) : Nat) : Int), .int (((st (i + 1)).length : Nat) : Int)]) := by
  unfold dPf
  rw [List.getElem?_map, List.getElem?_range h]; rfl
theorem dPf_tf (st : Nat → List Nat) (n : Nat) : ∀ d, d ∈ dPf st n → Tf d := fun d h => by
  obtain ⟨i, _, rfl⟩ := List.mem_map.mp h
  refine .tup fun d hd => ?_
  simp only [List.mem_cons, List.not_mem_nil, or_false] at hd
  rcases hd with rfl | rfl <;> exact .int _
/-- the states behind a schedule's flushes -/
def StS (p : List Nat) (st : Nat → List Nat) : Prop := st 0 = [] ∧ ∀ i m, p[i]? = some m → m ≤ (st i).length ∧ st (i + 1) = sa (st i) m
theorem StS.len {p : List Nat} {st : Nat → List Nat} (h : StS p st) : ∀ i, i ≤ p.length → (st i).length ≤ i := fun i => by
  induction i with
  | zero => intro _; rw [h.1]; simp
  | succ i ih =>
    intro hi
    obtain ⟨a1, a2⟩ := h.2 i _ (List.getElem?_eq_getElem (show i < p.length by omega))
    have := ih (by omega)
    rw [a2, sa_len a1]; omega
section
variable {P : Program} {w : World} {K : PySem.W.Frag} {mg : Str → Option Value} {base : Heap}
def sp_L_s5_profile (K : PySem.W.Frag) : Sp := fun vs H Q _ => ∃ (a : Addr) (p : List Nat) (st : Nat → List Nat), vs = [.ref a] ∧ SqT K H a (vi p) ∧ p.length ≤ 100 ∧ StS p st ∧ ∀ H' F cs, Same H H' → H F = none → H' F = some (.lst cs) → DpAll K H' cs (dPf st p.length) → Q (.ref F) H'
theorem ok_L_s5_profile (TX : Tx K mg) : FnOk P w K mg base CX0 1 TX.a_L_s5_profile TX.fd_L_s5_profile ["_law_plan"] (sp_L_s5_profile K) := by
  refine TX.f_L_s5_profile.ok sc_L_s5_profile (fun vs H Q E h => ?_) (fun cdv A outer s H vs Q E hr h => ?_)
  · obtain ⟨a, p, st, rfl, _⟩ := h; rfl
  · obtain ⟨a, p, st, rfl, hS, hz, hst, q⟩ := h
    refine ⟨_, (pss_cons (ps_asg (pe_tup (pa_cons (pe_lst pa_nil) (pa_cons pe_dnewK (pa_cons (pe_lst pa_nil) pa_nil)))) (pg_tup rfl (pgs_cons (pg_name (i := 1) sc_L_s5_profile.nd rfl (.inl rfl)) (pgs_cons (pg_name (i := 2) sc_L_s5_profile.nd rfl (.inr rfl)) (pgs_cons (pg_name (i := 3) sc_L_s5_profile.nd rfl (.inl rfl)) pgs_nil)))))
      (pss_cons (ps_for PassesOwn.never rfl (pi_enumT (by rfl) TX.b_enumerate (pa_cons (pv 0) pa_nil)) (pg_tup rfl (pgs_cons (pg_name (i := 4) sc_L_s5_profile.nd rfl (.inl rfl)) (pgs_cons (pg_name (i := 5) sc_L_s5_profile.nd rfl (.inl rfl)) pgs_nil)))
        (pss_cons (ps_par (i := 6) (j := 7) (by rfl) sc_L_s5_profile.nd rfl rfl (by decide) rfl rfl (pa_cons (pe_slice sl_list (pv 1) po_none (po_some (pe_op op_sub (pe_callB (id := "len") (k_len (K := K) rfl) (by rfl) TX.b_len (by decide +kernel) (pa_cons (pv 1) pa_nil)) (pv 5)))) (pa_cons (pe_lst (pa_cons (pv 4) pa_nil)) pa_nil)) (by rfl))
        (pss_cons (ps_for PassesOwn.never rfl (k_piL (K := K) rfl (pe_slice sl_list (pv 1) (po_some (pe_op op_sub (pe_callB (id := "len") (k_len (K := K) rfl) (by rfl) TX.b_len (by decide +kernel) (pa_cons (pv 1) pa_nil)) (pv 5))) po_none)) (pg_name (i := 8) sc_L_s5_profile.nd rfl (.inl rfl))
          (pss_one (ps_set (i := 7) sc_L_s5_profile.nd rfl (.inl rfl) (pe_op op_cat (pv 8) (pv 7)))))
        (pss_cons (ps_for PassesOwn.never rfl (k_piL (K := K) rfl (pv 7)) (pg_name (i := 9) sc_L_s5_profile.nd rfl (.inl rfl))
          (pss_one (ps_dput (hu_of hr) (pv 2) (pv 9) (pe_op op_add (pe_dget2 (hu_of hr) (pv 2) (pv 9) pe_int ⟨by rfl, by rfl, by rfl, by rfl⟩) pe_int) (by rfl))))
        (pss_cons (ps_set (i := 1) sc_L_s5_profile.nd rfl (.inl rfl) (pe_op op_cat (pv 6) (pe_lst (pa_cons (pv 7) pa_nil))))
        (pss_one (ps_expr (pe_bm PySem.F.plainAttrs_list PySem.F.slot_list_append PySem.F.type_list_append mt_append (pv 3) (pa_cons (pe_tup (pa_cons (pe_callB (id := "max") (cr_max rfl) (by rfl) TX.b_max (by decide +kernel) (pa_cons (pe_lock (pe_lc (own := [("_law_member", 9)]) (by rfl) sc_L_s5_profile.nd (pi_keys (pv 2)) (blkOk_by (own := [("_law_member", 9)]) (N := N_L_s5_profile) (sc := defScope s_L_s5_profile) (by decide +kernel)) (fun _ _ _ _ _ => (pg_name (i := 9) sc_L_s5_profile.nd rfl (Or.inl rfl))) (fun _ _ _ _ _ => pts_nil) (fun _ _ _ _ _ => (pe_dget (hu_of hr) (pv 2) (pv 9) (fun _ _ => rfl))))) pa_nil)) (pa_cons (pe_callB (id := "len") (k_len (K := K) rfl) (by rfl) TX.b_len (by decide +kernel) (pa_cons (pv 1) pa_nil)) pa_nil))) pa_nil)))))))))
      (pss_one (ps_ret (pv 3))))), ?_⟩
    refine ⟨sz60 (by simp), fun p0 n0 => fun D nD => ⟨sz60 (by simp), fun F nF => ⟨sz60 (by simp), fun T nT => ⟨T, _, rfl, .inl (.inl upd_same), rfl, _, _, rfl, _, _, rfl, _, _, rfl, rfl, ?_⟩⟩⟩⟩
    have s0 := same_upd (o := .lst []) n0
    have s1 := same_upd (o := .dK []) nD
    have s2 := same_upd (o := .lst []) nF
    have s3 := same_upd (o := .tup [V.ref p0, V.ref D, V.ref F]) nT
    have nDH : H D = none := s0.free nD
    have nFH : H F = none := (s0.trans s1).free nF
    have hp0 : (upd (upd (upd (upd H p0 (.lst [])) D (.dK [])) F (.lst [])) T (.tup [V.ref p0, V.ref D, V.ref F])) p0 = some (.lst []) := s3 _ _ (s2 _ _ (s1 _ _ upd_same))
    have hD0 : (upd (upd (upd (upd H p0 (.lst [])) D (.dK [])) F (.lst [])) T (.tup [V.ref p0, V.ref D, V.ref F])) D = some (.dK []) := s3 _ _ (s2 _ _ upd_same)
    have hF0 : (upd (upd (upd (upd H p0 (.lst [])) D (.dK [])) F (.lst [])) T (.tup [V.ref p0, V.ref D, V.ref F])) F = some (.lst []) := s3 _ _ upd_same
    have hpF : p0 ≠ F := fun e => by have h := s1 _ _ (upd_same (H := H) (a := p0) (o := .lst [])); rw [← e] at nF; rw [nF] at h; cases h
    have s03 := s0.trans (s1.trans (s2.trans s3))
    generalize upd (upd (upd (upd H p0 (.lst [])) D (.dK [])) F (.lst [])) T (.tup [V.ref p0, V.ref D, V.ref F]) = H0 at *
    clear s0 s1 s2 s3 nD nF nT n0
    refine ⟨.ref a, rfl, a, _, rfl, Same.tup s03 hS, for_it walk_enumT (fun i σ H' => ∃ (y4 y5 y6 y7 y8 y9 : Option V) (b : Addr) (vs cs : List V) (R : List (List Nat)) (f : Nat → Nat), σ = [some (.ref a), some (.ref b), some (.ref D), some (.ref F), y4, y5, y6, y7, y8, y9] ∧ Same H H' ∧ b ≠ F ∧ H' b = some (.lst vs) ∧ RunsL H' F vs R ∧ H' D = some (.dK (kl i f)) ∧ H' F = some (.lst cs) ∧ DpAll K H' cs (dPf st i) ∧ Prof i R f (st i))
      ⟨_, _, _, _, _, _, p0, [], [], [], fun _ => 0, rfl, s03, hpF, hp0, .nil, hD0, hF0, .nil, by rw [hst.1]; exact Prof.zero⟩ (fun i σ H' _ h => by obtain ⟨_, _, _, _, _, _, _, _, _, _, _, _, h, _⟩ := h; exact Same.tup h hS) ?_ ?_⟩
    rotate_left
    · rintro σ H' ⟨y4, y5, y6, y7, y8, y9, b, vs, cs, R, f, rfl, sm, hbF, hb, hR, hD, hF, hC, hP⟩
      rw [vi_len] at hC
      exact ⟨.ref F, rfl, q H' F cs sm nFH hF hC⟩
    rintro i x σ H1 H2 hi ⟨y4, y5, y6, y7, y8, y9, b, vs, cs, R, f, rfl, sm, hbF, hb, hR, hD, hF, hC, hP⟩ hy
    obtain ⟨Tp, x1, x2, rfl, nT, rfl, e1, e2⟩ := hy
    cases e1
    rw [vi_len] at hi
    obtain ⟨m, hm⟩ : ∃ m, p[i]? = some m := ⟨_, List.getElem?_eq_getElem hi⟩
    replace e2 : (vi p)[i]? = some x2 := e2
    rw [vi_get hm] at e2
    cases e2
    obtain ⟨hms, hsn⟩ := hst.2 i m hm
    have hRl := hP.rl
    have hvl := hR.len
    have hRi : R.length ≤ i := by have := len_le hP.ne; rw [hP.len] at this; exact this
    have hstep := hP.step (m := m) (by omega)
    rw [← hsn] at hstep
    have sT := same_upd (o := .tup [.int (i : Nat), .int (m : Int)]) nT
    refine ⟨Tp, _, rfl, .inl (.inl upd_same), rfl, _, _, rfl, _, [], rfl, rfl, ?_⟩
    have eK : ((vs.length : Nat) : Int) - (m : Int) = ((R.length - m : Nat) : Int) := by omega
    have hb2 := sT _ _ hb
    refine ⟨.ref b, rfl, .ref b, rfl, b, _, rfl, .inl (.inl (.inl hb2)), _, rfl, _, _, rfl, rfl, _, rfl, ?_⟩
    unfold tNoPart
    refine ⟨b, vs, rfl, .inl (.inl hb2), fun c0 nc0 => ?_⟩
    rw [eK, cut_to (by omega)]
    have s4 := same_upd (o := .lst (vs.take (R.length - m))) nc0
    refine ⟨_, rfl, sz60 (by simp), fun l0 nl0 => ?_⟩
    have s5 := same_upd (o := .lst [V.int (i : Nat)]) nl0
    have hl0 := upd_same (H := upd (upd H1 Tp (.tup [.int (i : Nat), .int (m : Int)])) c0 (.lst (vs.take (R.length - m)))) (a := l0) (o := .lst [V.int (i : Nat)])
    have hc0 := s5 _ _ (upd_same (H := upd H1 Tp (.tup [.int (i : Nat), .int (m : Int)])) (a := c0) (o := .lst (vs.take (R.length - m))))
    have s15 := sT.trans (s4.trans s5)
    have nl1 : H1 l0 = none := (sT.trans s4).free nl0
    have nc1 : H1 c0 = none := sT.free nc0
    generalize upd (upd (upd H1 Tp (.tup [.int (i : Nat), .int (m : Int)])) c0 (.lst (vs.take (R.length - m)))) l0 (.lst [V.int (i : Nat)]) = H5 at *
    clear s4 s5 nl0 nc0 hb2
    have hb5 := s15 _ _ hb
    have hF5 := s15 _ _ hF
    have hD5 := s15 _ _ hD
    have hR5 := RunsL.mono (.same s15) hR
    have hC5 := DpAll.same s15 hC
    have sm5 := sm.trans s15
    have hlF : l0 ≠ F := fun e => by rw [e, hF] at nl1; cases nl1
    have hcF : c0 ≠ F := fun e => by rw [e, hF] at nc1; cases nc1
    refine ⟨_, _, rfl, ?_⟩
    refine ⟨.ref b, rfl, .ref b, rfl, b, _, rfl, .inl (.inl (.inl hb5)), _, rfl, _, _, rfl, rfl, _, rfl, ?_⟩
    refine ⟨b, vs, rfl, .inl (.inl hb5), fun c1 nc1' => ?_⟩
    rw [eK, cut_from (by omega)]
    have s6 := same_upd (o := .lst (vs.drop (R.length - m))) nc1'
    have hc1 := upd_same (H := H5) (a := c1) (o := .lst (vs.drop (R.length - m)))
    generalize upd H5 c1 (.lst (vs.drop (R.length - m))) = H6 at *
    have hB6 := RunsL.mono (.same s6) (hR5.drop (R.length - m))
    have hBl : (R.drop (R.length - m)).length = m := by rw [List.length_drop]; omega
    have hfl : ∀ t, (mrg ((R.drop (R.length - m)).take t) i).length ≤ 200 := fun t => by
      have h1 : (mrg ((R.drop (R.length - m)).take t) i).length ≤ (mrg (R.drop (R.length - m)) i).length := by
        unfold mrg
        rw [List.length_append, List.length_append, len_rev, len_rev]
        have : ((R.drop (R.length - m)).take t).flatten.length ≤ (R.drop (R.length - m)).flatten.length := by
          conv => rhs; rw [← List.take_append_drop t (R.drop (R.length - m)), List.flatten_append, List.length_append]
          omega
        omega
      have h2 : (mrg (R.drop (R.length - m)) i).length ≤ i + 1 := by
        have := hstep.len
        rw [List.flatten_append, List.length_append] at this
        simp only [List.flatten_cons, List.flatten_nil, List.append_nil] at this
        omega
      omega
    refine ⟨c1, rfl, ⟨_, .inl (.inl hc1)⟩, for_list (K := K) (xs := vs.drop (R.length - m)) (fun t σ G => ∃ (y8 : Option V) (M : Addr), σ = [some (.ref a), some (.ref b), some (.ref D), some (.ref F), some (.int (i : Int)), some (.int (m : Int)), some (.ref c0), some (.ref M), y8, y9] ∧ Same H6 G ∧ M ≠ F ∧ G M = some (.lst (vi (mrg ((R.drop (R.length - m)).take t) i)))) ⟨_, l0, rfl, .refl _, hlF, s6 _ _ hl0⟩ (fun t σ G _ h => by obtain ⟨_, _, _, h, _⟩ := h; exact .inl (.inl (h _ _ hc1))) ?_ ?_⟩
    · rintro t x σ G hx ⟨y8, M, rfl, sG, hMF, hM⟩
      obtain ⟨r, z, rfl, hz1, hr1, hrF⟩ := hB6.get hx
      refine ⟨.ref r, rfl, .ref M, rfl, r, M, _, _, rfl, rfl, sG _ _ hr1, hM, sz60 ?_, fun M' nM' => ?_⟩
      · have h1 := len_in (List.mem_of_getElem? hz1)
        have h2 : (R.drop (R.length - m)).flatten.length ≤ R.flatten.length := by
          conv => rhs; rw [← List.take_append_drop (R.length - m) R, List.flatten_append, List.length_append]
          omega
        have h3 := hP.len
        have h4 := hfl t
        rw [vi_len, vi_len]; omega
      · refine ⟨_, M', rfl, sG.trans (same_upd nM'), fun e => ?_, ?_⟩
        · have := sG _ _ (s6 _ _ hF5)
          rw [e, this] at nM'; cases nM'
        · rw [mrg_succ i hz1, vi_app]; exact upd_same
    rintro σ G ⟨y8, M, rfl, sG, hMF, hM⟩
    rw [List.take_of_length_le (show (R.drop (R.length - m)).length ≤ (vs.drop (R.length - m)).length by rw [List.length_drop, List.length_drop]; omega)] at hM
    have s5G := s6.trans sG
    have hbG := s5G _ _ hb5
    have hFG := s5G _ _ hF5
    have hDG := s5G _ _ hD5
    have hcG := s5G _ _ hc0
    have hRG := RunsL.mono (.same s5G) hR5
    have hCG := DpAll.same s5G hC5
    have smG := sm5.trans s5G
    obtain ⟨B, hB⟩ : ∃ B, B = R.drop (R.length - m) := ⟨_, rfl⟩
    have hfB := hfl B.length
    rw [← hB] at hM hstep hfB
    rw [List.take_length] at hfB
    have hnew : f i = 0 := hP.new i (Nat.le_refl _)
    have hcB : B.flatten.count i = 0 := by
      have h1 := hP.cnt i
      rw [if_neg (by omega), ← List.take_append_drop (R.length - m) R, List.flatten_append, List.count_append, ← hB] at h1
      omega
    have hold : ∀ j, j ∈ B.reverse.flatten → j < i := fun j hj => by
      obtain ⟨r, hr1, hr2⟩ := List.mem_flatten.mp (mem_rev.mp hj)
      exact hP.lt (r := r) (List.mem_of_mem_drop (by rw [← hB]; exact hr1)) hr2
    obtain ⟨L, hL⟩ : ∃ L, L = B.reverse.flatten.length := ⟨_, rfl⟩
    have hml : (mrg B i).length = L + 1 := by unfold mrg; rw [List.length_append, ← hL]; rfl
    clear s5G hb5 hF5 hD5 hc0 hR5 hC5 sm5 hB6 hBl hfl sG s6 hc1 s15 hl0
    -- the counts of the members
    refine ⟨.ref M, rfl, M, rfl, ⟨_, .inl (.inl hM)⟩, for_list (K := K) (xs := vi (mrg B i)) (fun t σ G' => ∃ (y9 : Option V), σ = [some (.ref a), some (.ref b), some (.ref D), some (.ref F), some (.int (i : Int)), some (.int (m : Int)), some (.ref c0), some (.ref M), y8, y9] ∧ (∀ u o, u ≠ D → G u = some o → G' u = some o) ∧ G' D = some (.dK (kl (if t ≤ L then i else i + 1) (bumps f ((mrg B i).take t))))) ⟨_, rfl, fun u o _ e => e, by rw [if_pos (by omega), List.take_zero, bumps_nil]; exact hDG⟩ (fun t σ G' _ h => by obtain ⟨_, _, h, _⟩ := h; exact .inl (.inl (h _ _ (fun e => by rw [e, hDG] at hM; cases hM) hM))) ?_ ?_⟩
    · rintro t x σ G' hx ⟨y9, rfl, sG', hD'⟩
      have htl : t < (mrg B i).length := by have := (List.getElem?_eq_some_iff.mp hx).1; rwa [vi_len] at this
      have hte := List.getElem?_eq_getElem htl
      rw [vi_get hte] at hx
      cases hx
      obtain ⟨j, hj⟩ : ∃ j, j = (mrg B i)[t] := ⟨_, rfl⟩
      have htk : (mrg B i).take (t + 1) = (mrg B i).take t ++ [j] := by rw [List.take_add_one, hte, hj]; rfl
      rw [if_pos (show t ≤ L by omega)] at hD'
      rw [← hj]
      by_cases htL : t < L
      · have hji : j < i := by
          refine hold j ?_
          rw [hj]
          have e : (mrg B i)[t] = B.reverse.flatten[t] := List.getElem_append_left (by omega)
          rw [e]; exact List.getElem_mem _
        refine ⟨.ref D, rfl, D, rfl, .inl ⟨_, .inl hD'⟩, _, rfl, some (.int (bumps f ((mrg B i).take t) j : Nat)), .inl ⟨_, .inl (j : Int), .inl hD', rfl, by rw [kl_val, if_pos hji]⟩, _, _, rfl, rfl, .ref D, rfl, _, rfl, D, _, rfl, .inl ⟨_, .inl (j : Int), hD', rfl, by rw [kl_len]; exact sz61 (by omega), rfl⟩, ?_⟩
        refine ⟨_, rfl, fun u o hu e => by rw [upd_ne hu]; exact sG' u o hu e, ?_⟩
        rw [upd_same, if_pos (by omega), htk, bumps_snoc]
        show some (HO.dK (putK (kl i (bumps f ((mrg B i).take t))) (.inl (j : Int) : L2.Key) (V.int ((bumps f ((mrg B i).take t) j + 1 : Nat) : Int)))) = _
        rw [kl_put_old hji]
      · have eL : t = L := by omega
        have hji : j = i := by
          have e : (mrg B i)[t]? = some i := by
            unfold mrg
            rw [List.getElem?_append_right (by omega), eL, hL, Nat.sub_self]; rfl
          rw [hte] at e
          rw [hj]; exact Option.some.inj e
        rw [hji] at htk ⊢
        have h0 : bumps f ((mrg B i).take t) i = 0 := by
          have e : (mrg B i).take t = B.reverse.flatten := by unfold mrg; rw [eL, hL, List.take_left']; rfl
          rw [e]
          unfold bumps
          rw [hnew, count_rev, hcB]
        refine ⟨.ref D, rfl, D, rfl, .inl ⟨_, .inl hD'⟩, _, rfl, none, .inl ⟨_, .inl (i : Int), .inl hD', rfl, by rw [kl_val, if_neg (by omega)]⟩, _, _, rfl, rfl, .ref D, rfl, _, rfl, D, _, rfl, .inl ⟨_, .inl (i : Int), hD', rfl, by rw [kl_len]; exact sz61 (by omega), rfl⟩, ?_⟩
        refine ⟨_, rfl, fun u o hu e => by rw [upd_ne hu]; exact sG' u o hu e, ?_⟩
        rw [upd_same, if_neg (by omega), htk, bumps_snoc, h0]
        show some (HO.dK (putK (kl i (bumps f ((mrg B i).take t))) (.inl (i : Int) : L2.Key) (V.int ((0 + 1 : Nat) : Int)))) = _
        rw [kl_put_new]
    rintro σ G' ⟨y9', rfl, sG', hD'⟩
    rw [vi_len, if_neg (by omega), List.take_length] at hD'
    have hbG' := sG' _ _ (fun e => by rw [e, hDG] at hbG; cases hbG) hbG
    have hFG' := sG' _ _ (fun e => by rw [e, hDG] at hFG; cases hFG) hFG
    have hcG' := sG' _ _ (fun e => by rw [e, hDG] at hcG; cases hcG) hcG
    have hM' := sG' _ _ (fun e => by rw [e, hDG] at hM; cases hM) hM
    have kG : Keep K G G' := fun x xs e => by
      rcases e with (e | ⟨u, e⟩) | e
      · exact .inl (.inl (sG' _ _ (fun z => by rw [z, hDG] at e; cases e) e))
      · exact .inl (.inr ⟨u, sG' _ _ (fun z => by rw [z, hDG] at e; cases e) e⟩)
      · exact .inr e
    have lG : LK F G G' := fun x xs _ e => sG' _ _ (fun z => by rw [z, hDG] at e; cases e) e
    have hRG' := RunsL.mono lG hRG
    have hCG' := DpAll.keep kG (dPf_tf st i) hCG
    have smG' : Same H G' := fun u o e => sG' _ _ (fun z => by rw [z, nDH] at e; cases e) (smG _ _ e)
    obtain ⟨f', hf'⟩ : ∃ f', f' = bumps f (mrg B i) := ⟨_, rfl⟩
    rw [← hf'] at hstep hD'
    clear kG lG hRG hCG smG hbG hFG hcG hM hDG hR hC hb hF hD sG'
    -- stack = kept + [members]
    refine ⟨.ref c0, rfl, .ref M, rfl, sz60 (by simp), fun l2 nl2 => ⟨c0, l2, _, _, rfl, rfl, same_upd nl2 _ _ hcG', upd_same, sz60 (by simp; omega), fun b' nb' => ?_⟩⟩
    have t1 := same_upd (o := .lst [V.ref M]) nl2
    have t2 := same_upd (o := .lst (vs.take (R.length - m) ++ [V.ref M])) nb'
    have hb3 := upd_same (H := upd G' l2 (.lst [V.ref M])) (a := b') (o := .lst (vs.take (R.length - m) ++ [V.ref M]))
    have tt := t1.trans t2
    have nb3 : G' b' = none := t1.free nb'
    have hbF3 : b' ≠ F := fun e => by rw [e, hFG'] at nb3; cases nb3
    generalize upd (upd G' l2 (.lst [V.ref M])) b' (.lst (vs.take (R.length - m) ++ [V.ref M])) = G3 at *
    have hD3 := tt _ _ hD'
    have hF3 := tt _ _ hFG'
    have hR3 : RunsL G3 F (vs.take (R.length - m) ++ [V.ref M]) (R.take (R.length - m) ++ [mrg B i]) := RunsL.add (tt _ _ hM') hMF (RunsL.mono (.same tt) (hRG'.take _))
    have hC3 := DpAll.same tt hCG'
    have sm3 := smG'.trans tt
    clear t1 t2 tt nl2 nb' nb3
    have hlv : (vs.take (R.length - m) ++ [V.ref M]).length = (st (i + 1)).length := by
      have := hstep.rl
      rw [← hR3.len] at this
      exact this
    have hle : (st (i + 1)).length ≤ i + 1 := hst.len (i + 1) (by omega)
    refine ⟨.ref F, rfl, .inl ⟨rfl, _, .inl (.inl hF3)⟩, ?_⟩
    refine ⟨D, .dK (kl (i + 1) f'), hD3, trivial, fun od => ⟨.ref D, rfl, D, od, rfl, .inl ⟨kl (i + 1) f', upd_same, fun DD nDD => ?_⟩⟩⟩
    have hDDD : DD ≠ D := fun e => by rw [e, upd_same] at nDD; cases nDD
    refine lc_ints (K := K) (walk_keys (d := D) (o := od) (kvs := kl (i + 1) f')) (ci ((List.range (i + 1)).map f')) (by rw [ci, List.length_map, List.length_map, List.length_range, kl_len]) (by rw [kl_len]; omega) nDD (fun G4 s4 => s4 _ _ upd_same) ?_ ?_ (fun x σ' H' Q Q' h => h _ _) (fun σ' H' Q Q' h => h _ _)
    · rintro j x G4 G5 hj s4 ⟨rfl, k, v, hkv, rfl⟩ z hz' Rq hRq
      rw [kl_len] at hj
      rw [kl_get f' hj] at hkv
      cases hkv
      rw [ci, List.getElem?_map, List.getElem?_map, List.getElem?_range hj] at hz'
      cases hz'
      exact ⟨rfl, rfl, .ref D, rfl, _, rfl, D, _, rfl, .inl ⟨kl (i + 1) f', .inl (j : Int), .inr ⟨od, s4 _ _ upd_same⟩, rfl, by rw [kl_val, if_pos hj]⟩, hRq _ (Same.refl _)⟩
    · intro G4 s4 hDD4
      refine ⟨s4 _ _ upd_same, ?_⟩
      have s34 : Same G3 (upd G4 D (.dK (kl (i + 1) f'))) := fun u o e => by
        by_cases h : u = D
        · rw [h] at e ⊢; rw [upd_same, ← hD3, e]
        · rw [upd_ne h]; exact s4 _ _ (by rw [upd_ne h]; exact e)
      have hDD5 : (upd G4 D (.dK (kl (i + 1) f'))) DD = some (.lst ((ci ((List.range (i + 1)).map f')).map V.int)) := by rw [upd_ne hDDD]; exact hDD4
      generalize upd G4 D (.dK (kl (i + 1) f')) = G5 at s34 hDD5 ⊢
      refine ⟨DD, _, rfl, .inl (.inl hDD5), by simp [ci], fun mm h1 h2 => ?_⟩
      rw [mx_of h1 h2, hstep.top]
      refine ⟨.ref b', rfl, b', _, rfl, .inl (.inl (.inl (s34 _ _ hb3))), sz60 (by simp), fun t nt => ?_⟩
      rw [hlv]
      have t1 := same_upd (o := .tup [V.int ((mx (st (i + 1)) : Nat) : Int), V.int (((st (i + 1)).length : Nat) : Int)]) nt
      have s35 := s34.trans t1
      have ht5 := upd_same (H := G5) (a := t) (o := .tup [V.int ((mx (st (i + 1)) : Nat) : Int), V.int (((st (i + 1)).length : Nat) : Int)])
      generalize upd G5 t (.tup [V.int ((mx (st (i + 1)) : Nat) : Int), V.int (((st (i + 1)).length : Nat) : Int)]) = G6 at s35 ht5 ⊢
      have hcl := DpAll.len hC3
      rw [dPf_len] at hcl
      have hF6 := s35 _ _ hF3
      have hDF : D ≠ F := fun e => by rw [e, hF3] at hD3; cases hD3
      refine ⟨F, _, _, rfl, rfl, hF6, sz61 (by omega), ?_⟩
      refine ⟨_, _, _, _, _, _, b', _, _, _, f', rfl, Same.mut (sm3.trans s35) nFH, hbF3, by rw [upd_ne hbF3]; exact s35 _ _ hb3, RunsL.mono .upd (RunsL.mono (.same s35) hR3), by rw [upd_ne hDF]; exact s35 _ _ hD3, upd_same, ?_, hstep⟩
      rw [dPf_succ]
      refine DpAll.keep (But.keep But.upd hF6) (fun d hd => ?_) (DpAll.append (DpAll.same s35 hC3) (.cons (.tup (.inl (.inl ht5)) (.cons (.int _) (.cons (.int _) .nil))) .nil))
      have := dPf_tf st (i + 1) d (by rw [dPf_succ]; exact hd)
      exact this
end
/-! ### all schedules within budgets, flush by flush -/
def bstm (k c : Nat) (st : List Nat) : Option Nat := (List.range' (few k st) (st.length + 1 - few k st)).find? fun m => decide (mx (st.drop (st.length - m)) < bnd c st (st.length - m))
def lvl (k c : Nat) : Nat → List (List Nat × List Nat)
  | 0 => [([], [])]
  | n + 1 => (lvl k c n).flatMap fun ps => (nxt k c ps.2).map fun m => (ps.1 ++ [m], sa ps.2 m)
def fol (k c : Nat) : Nat → Option (List Nat × List Nat)
  | 0 => some ([], [])
  | n + 1 => match fol k c n with
    | none => none
    | some (p, s) => match bstm k c s with
      | none => none
      | some m => some (p ++ [m], sa s m)
def pairsK : List (Nat × Nat) := [(1, 19), (19, 1), (2, 3), (3, 2), (2, 4), (4, 2), (3, 3), (0, 7), (7, 0), (2, 2), (1, 1)]
def fullK (k c : Nat) : Nat := bin (k + c) k - 1
/-- what is asked of one level -/
def okLv (k c f l : Nat) (L : List (List Nat × List Nat)) : Bool :=
  decide (L.length ≤ 240) && L.all (fun ps => isSta k c ps.2 && decide (ps.2.length ≤ 20) && decide (ps.1.length = l)) && decide (((L.map fun ps => ps.2).eraseDups).length ≤ 62) &&
    L.all (fun ps => decide (remv k c ps.2 ≤ ((f : Int) - (l : Int)))) && L.any (fun ps => decide (remv k c ps.2 = ((f : Int) - (l : Int))))
def okK (k c : Nat) : Bool :=
  let f := fullK k c
  decide (f ≤ 19) && (List.range (f + 1)).all (fun l => okLv k c f l (lvl k c l)) && (lvl k c (f + 1)).isEmpty &&
    (List.range f).all (fun i => (fol k c (i + 1)).isSome) && (fol k c (f + 1)).isNone && decide ((lvl k c f).map (fun ps => ps.1) = ((fol k c f).map fun ps => [ps.1]).getD [])
theorem okK_all : ∀ p, p ∈ pairsK → okK p.1 p.2 = true := by decide +kernel
theorem find_range' {p : Nat → Bool} : ∀ {n s m : Nat}, (List.range' s n).find? p = some m ↔ p m = true ∧ s ≤ m ∧ m < s + n ∧ ∀ j, s ≤ j → j < m → p j = false
  | 0, s, m => by
    simp only [List.range'_zero, List.find?_nil]
    exact ⟨fun h => (by cases h), fun ⟨_, h1, h2, _⟩ => absurd h2 (by omega)⟩
  | n + 1, s, m => by
    rw [List.range'_succ, List.find?_cons]
    cases e : p s with
    | true =>
      constructor
      · intro h; cases h
        exact ⟨e, Nat.le_refl _, by omega, fun j h1 h2 => absurd h2 (by omega)⟩
      · rintro ⟨h1, h2, h3, h4⟩
        by_cases c : s = m
        · rw [c]
        · have := h4 s (Nat.le_refl _) (by omega)
          rw [e] at this; cases this
    | false =>
      rw [find_range' (n := n) (s := s + 1) (m := m)]
      constructor
      · rintro ⟨h1, h2, h3, h4⟩
        refine ⟨h1, by omega, by omega, fun j a b => ?_⟩
        by_cases c : j = s
        · rw [c]; exact e
        · exact h4 j (by omega) b
      · rintro ⟨h1, h2, h3, h4⟩
        have hne : s ≠ m := fun c => by rw [← c, e] at h1; cases h1
        exact ⟨h1, by omega, by omega, fun j a b => h4 j (by omega) b⟩
theorem few_le {k : Nat} {st : List Nat} (h : st.length ≤ k) : few k st ≤ st.length + 1 := by unfold few; split <;> omega
theorem bstm_of {k c : Nat} {st : List Nat} {m : Nat} (b : Bm k c st m) : bstm k c st = some m := by
  obtain ⟨b1, b2, b3, b4⟩ := b
  unfold bstm
  have t1 : mx (st.drop (st.length - m)) < bnd c st (st.length - m) := b3
  have t2 : ∀ j, few k st ≤ j → j < m → ¬ mx (st.drop (st.length - j)) < bnd c st (st.length - j) := b4
  exact find_range'.mpr ⟨decide_eq_true t1, b1, by omega, fun j h1 h2 => decide_eq_false (t2 j h1 h2)⟩
theorem bstm_bm {k c : Nat} {st : List Nat} {m : Nat} (h : bstm k c st = some m) : Bm k c st m := by
  unfold bstm at h
  obtain ⟨h1, h2, h3, h4⟩ := find_range'.mp h
  have t1 : mx (st.drop (st.length - m)) < bnd c st (st.length - m) := of_decide_eq_true h1
  have t2 : ∀ j, few k st ≤ j → j < m → ¬ mx (st.drop (st.length - j)) < bnd c st (st.length - j) := fun j a b => of_decide_eq_false (h4 j a b)
  exact ⟨h2, by omega, t1, t2⟩
theorem bstm_no {k c : Nat} {st : List Nat} (b : BmN k c st) : bstm k c st = none := by
  cases e : bstm k c st with
  | none => rfl
  | some m =>
    obtain ⟨h1, h2, h3, h4⟩ := bstm_bm e
    exact absurd h3 (b m h1 h2)
theorem fol_succ {k c n : Nat} {p s : List Nat} (h : fol k c n = some (p, s)) : fol k c (n + 1) = match bstm k c s with
      | none => none
      | some m => some (p ++ [m], sa s m) := by
  rw [fol, h] <;> rfl
theorem fol_sta {k c : Nat} : ∀ {n : Nat} {p s : List Nat}, fol k c n = some (p, s) → Sta k c s ∧ p.length = n
  | 0, p, s, h => by
    cases h
    exact ⟨⟨Nat.zero_le _, fun x hx => by cases hx⟩, rfl⟩
  | n + 1, p, s, h => by
    cases e : fol k c n with
    | none => rw [fol, e] at h; cases h
    | some ps =>
      obtain ⟨p0, s0⟩ := ps
      obtain ⟨h1, h2⟩ := fol_sta e
      rw [fol_succ e] at h
      cases e2 : bstm k c s0 with
      | none => rw [e2] at h; cases h
      | some m =>
        rw [e2] at h
        cases h
        exact ⟨((bstm_bm e2).good h1).1, by rw [List.length_append, h2]; rfl⟩
/-! schedules of the levels, by their states -/
def stf (p : List Nat) (i : Nat) : List Nat := (p.take i).foldl sa []
theorem stf_succ {p : List Nat} {i m : Nat} (h : p[i]? = some m) : stf p (i + 1) = sa (stf p i) m := by
  unfold stf
  rw [List.take_add_one, h, List.foldl_append]
  rfl
def Good (p : List Nat) : Prop := ∀ i m, p[i]? = some m → m ≤ (stf p i).length
theorem Good.sts {p : List Nat} (h : Good p) : StS p (stf p) := ⟨rfl, fun i m hm => ⟨h i m hm, stf_succ hm⟩⟩
theorem Good.nil : Good [] := fun i m h => by simp at h
theorem stf_app {p q : List Nat} {i : Nat} (h : i ≤ p.length) : stf (p ++ q) i = stf p i := by
  unfold stf
  rw [List.take_append_of_le_length h]
theorem Good.snoc {p : List Nat} {m : Nat} (h : Good p) (hm : m ≤ (stf p p.length).length) : Good (p ++ [m]) := fun i x hx => by
  by_cases e : i < p.length
  · rw [List.getElem?_append_left e] at hx
    rw [stf_app (by omega)]
    exact h i x hx
  · by_cases e2 : i = p.length
    · subst e2
      have : x = m := by simpa using hx.symm
      rw [stf_app (Nat.le_refl _), this]; exact hm
    · rw [List.getElem?_eq_none (by rw [List.length_append, List.length_cons, List.length_nil]; omega)] at hx
      cases hx
theorem fol_good {k c : Nat} : ∀ {n : Nat} {p s : List Nat}, fol k c n = some (p, s) → Good p ∧ s = stf p n
  | 0, p, s, h => by cases h; exact ⟨Good.nil, rfl⟩
  | n + 1, p, s, h => by
    cases e : fol k c n with
    | none => rw [fol, e] at h; cases h
    | some ps =>
      obtain ⟨p0, s0⟩ := ps
      obtain ⟨h1, h2⟩ := fol_good e
      have hl := (fol_sta e).2
      rw [fol_succ e] at h
      cases e2 : bstm k c s0 with
      | none => rw [e2] at h; cases h
      | some m =>
        rw [e2] at h
        cases h
        refine ⟨h1.snoc (by rw [hl, ← h2]; exact (bstm_bm e2).2.1), ?_⟩
        rw [stf_succ (m := m) (by rw [← hl]; simp), stf_app (by omega), ← h2]
/-- the last schedule's profile -/
def profK (k c : Nat) : Bool :=
  let f := fullK k c
  let p := ((fol k c f).map fun ps => ps.1).getD []
  if p = [] then decide (k = 0) || decide (c = 0) else
    decide (mx ((List.range f).map fun i => (stf p (i + 1)).length) = k) && decide (mx ((List.range f).map fun i => mx (stf p (i + 1))) = c)
theorem profK_all : ∀ p, p ∈ pairsK → profK p.1 p.2 = true := by decide +kernel
theorem lvl_succ (k c n : Nat) : lvl k c (n + 1) = (lvl k c n).flatMap fun ps => (nxt k c ps.2).map fun m => (ps.1 ++ [m], sa ps.2 m) := rfl
/-- what a level keeps -/
structure LvOk (k c f l : Nat) (L : List (List Nat × List Nat)) : Prop where
  len : L.length ≤ 240
  sta : ∀ ps, ps ∈ L → Sta k c ps.2
  pl : ∀ ps, ps ∈ L → ps.1.length = l
  few : ∃ D : List (List Nat), D.length ≤ 62 ∧ ∀ ps, ps ∈ L → ps.2 ∈ D
  le : ∀ ps, ps ∈ L → remv k c ps.2 ≤ ((f : Int) - (l : Int))
  ex : ∃ ps, ps ∈ L ∧ remv k c ps.2 = ((f : Int) - (l : Int))
theorem lvOk {k c f l : Nat} {L : List (List Nat × List Nat)} (h : okLv k c f l L = true) : LvOk k c f l L := by
  unfold okLv at h
  simp only [Bool.and_eq_true, decide_eq_true_eq, List.all_eq_true, List.any_eq_true] at h
  obtain ⟨⟨⟨⟨h1, h2⟩, h3⟩, h4⟩, ps, h5, h6⟩ := h
  exact ⟨h1, fun ps hp => isSta_iff.mp (h2 ps hp).1.1, fun ps hp => (h2 ps hp).2, ⟨_, h3, fun ps hp => List.mem_eraseDups.mpr (List.mem_map.mpr ⟨ps, hp, rfl⟩)⟩, fun ps hp => h4 ps hp, ⟨ps, h5, h6⟩⟩
/-- what the pairs of budgets keep -/
structure KOk (k c f : Nat) (p : List Nat) : Prop where
  f19 : f ≤ 19
  full : fullK k c = f
  lv : ∀ l, l ≤ f → LvOk k c f l (lvl k c l)
  none : lvl k c (f + 1) = []
  fsome : ∀ i, i ≤ f → ∃ ps, fol k c i = some ps
  fnone : fol k c (f + 1) = .none
  pl : ∃ s, fol k c f = some (p, s)
  one : ∃ s, lvl k c f = [(p, s)]
  prof : if p = [] then k = 0 ∨ c = 0 else mx ((List.range f).map fun i => (stf p (i + 1)).length) = k ∧ mx ((List.range f).map fun i => mx (stf p (i + 1))) = c
theorem kOk {k c : Nat} (h : (k, c) ∈ pairsK) : ∃ f p, KOk k c f p := by
  have h1 := okK_all _ h
  have h2 := profK_all _ h
  unfold okK at h1
  unfold profK at h2
  simp only [Bool.and_eq_true, decide_eq_true_eq, List.all_eq_true, List.mem_range, List.isEmpty_iff, Option.isNone_iff_eq_none] at h1
  obtain ⟨⟨⟨⟨⟨a1, a2⟩, a3⟩, a4⟩, a5⟩, a6⟩ := h1
  dsimp only at a1 a2 a3 a4 a5 a6 h2
  have a4' : ∀ i, i ≤ fullK k c → ∃ ps, fol k c i = some ps := fun i hi => by
    cases i with
    | zero => exact ⟨_, rfl⟩
    | succ i => exact Option.isSome_iff_exists.mp (a4 i (by omega))
  obtain ⟨⟨p, s⟩, hp⟩ := a4' (fullK k c) (Nat.le_refl _)
  rw [hp] at a6 h2
  simp only [Option.map_some, Option.getD_some] at a6 h2
  refine ⟨fullK k c, p, a1, rfl, fun l hl => lvOk (a2 l (by omega)), a3, a4', a5, ⟨s, hp⟩, ?_, ?_⟩
  · cases e : lvl k c (fullK k c) with
    | nil => rw [e] at a6; cases a6
    | cons x xs =>
      rw [e, List.map_cons] at a6
      obtain ⟨b1, b2⟩ := List.cons.inj a6
      obtain rfl := List.map_eq_nil_iff.mp b2
      obtain ⟨x1, x2⟩ := x
      cases b1
      exact ⟨x2, rfl⟩
  · by_cases c0 : p = []
    · rw [if_pos c0] at h2 ⊢
      simpa using h2
    · rw [if_neg c0] at h2 ⊢
      simpa using h2
section
variable {P : Program} {w : World} {K : PySem.W.Frag} {mg : Str → Option Value} {base : Heap}
def dLv (ps : List Nat × List Nat) : PyData := .tuple [.tuple ((ci ps.1).map PyData.int), .tuple ((ci ps.2).map PyData.int)]
theorem tf_dLv (ps : List Nat × List Nat) : Tf (dLv ps) := .tup fun d h => by
  rcases List.mem_cons.mp h with h | h
  · rw [h]; exact .tup (tf_ints _)
  · rcases List.mem_cons.mp h with h | h
    · rw [h]; exact .tup (tf_ints _)
    · cases h
theorem dLv_inv {H : Hp} {x : V} {ps : List Nat × List Nat} (h : Dp K H x (dLv ps)) : ∃ t a b, x = .ref t ∧ SqT K H t [.ref a, .ref b] ∧ SqT K H a (vi ps.1) ∧ SqT K H b (vi ps.2) := by
  obtain ⟨t, xs, rfl, h1, h2⟩ := Dp.tupInv h
  cases h2 with
  | cons a0 b =>
    obtain ⟨a, rfl, ha⟩ := Dp.intsInv a0
    cases b with
    | cons b0 z =>
      cases z
      obtain ⟨b, rfl, hb⟩ := Dp.intsInv b0
      exact ⟨t, a, b, rfl, h1, by rw [vi_ci]; exact ha, by rw [vi_ci]; exact hb⟩
def lng (k c : Nat) (L : List (List Nat × List Nat)) : List (List Nat × List Nat) := L.flatMap fun ps => (nxt k c ps.2).map fun m => (ps.1 ++ [m], sa ps.2 m)
theorem nxt_len {k c : Nat} {st : List Nat} : (nxt k c st).length ≤ st.length + 1 := by
  unfold nxt
  have := List.length_filter_le (fun m => isSta k c (sa st m)) (List.range (st.length + 1))
  rwa [List.length_range] at this
theorem lng_len {k c : Nat} : ∀ {L : List (List Nat × List Nat)}, (∀ ps, ps ∈ L → ps.2.length ≤ 100) → (lng k c L).length ≤ 101 * L.length
  | [], _ => Nat.zero_le _
  | ps :: L, h => by
    have ih := lng_len (k := k) (c := c) fun ps hp => h ps (.tail _ hp)
    have h1 := h ps (.head _)
    have h2 := nxt_len (k := k) (c := c) (st := ps.2)
    unfold lng at ih ⊢
    rw [List.flatMap_cons, List.length_append, List.length_map, List.length_cons]
    omega
theorem lng_take {k c i : Nat} {L : List (List Nat × List Nat)} {ps : List Nat × List Nat} (h : L[i]? = some ps) : lng k c (L.take (i + 1)) = lng k c (L.take i) ++ (nxt k c ps.2).map fun m => (ps.1 ++ [m], sa ps.2 m) := by
  unfold lng
  rw [List.take_add_one, h, List.flatMap_append]
  simp
theorem tf_lv (L : List (List Nat × List Nat)) : ∀ d, d ∈ L.map dLv → Tf d := fun d h => by obtain ⟨ps, _, rfl⟩ := List.mem_map.mp h; exact tf_dLv _
def sp_L_s5_level (K : PySem.W.Frag) : Sp := fun vs H Q _ => ∃ (a : Addr) (ys : List V) (L : List (List Nat × List Nat)) (k c : Nat), vs = [.ref a, .int (k : Int), .int (c : Int)] ∧ H a = some (.lst ys) ∧ DpAll K H ys (L.map dLv) ∧ L.length ≤ 240 ∧ (∀ ps, ps ∈ L → ps.2.length ≤ 100 ∧ (∀ x, x ∈ ps.2 → 1 ≤ x) ∧ ps.1.length ≤ 100) ∧
  ∀ H' p zs, Same H H' → H p = none → H' p = some (.lst zs) → DpAll K H' zs ((lng k c L).map dLv) → Q (.ref p) H'
theorem ok_L_s5_level (TX : Tx K mg) : FnOk P w K mg base CX0 3 TX.a_L_s5_level TX.fd_L_s5_level ["_law_level", "_law_room", "_law_wear"] (sp_L_s5_level K) := by
  refine TX.f_L_s5_level.ok sc_L_s5_level (fun vs H Q E h => ?_) (fun cdv A outer s H vs Q E hr h => ?_)
  · obtain ⟨a, ys, L, k, c, rfl, _⟩ := h; rfl
  · obtain ⟨a, ys, L, k, c, rfl, hS, hA, hL, hps, q⟩ := h
    refine ⟨_, (pss_cons (ps_set (i := 3) sc_L_s5_level.nd rfl (.inl rfl) (pe_lst pa_nil))
      (pss_cons (ps_for PassesOwn.never rfl (k_piL (K := K) rfl (pv 0)) (pg_tup rfl (pgs_cons (pg_name (i := 4) sc_L_s5_level.nd rfl (.inr rfl)) (pgs_cons (pg_name (i := 5) sc_L_s5_level.nd rfl (.inl rfl)) pgs_nil)))
        (pss_one (ps_expr (pe_bm PySem.F.plainAttrs_list PySem.F.slot_list_extend PySem.F.type_list_extend mt_extend (pv 3) (pa_cons (pe_lc (own := [("_law_taken", 6), ("_law_after", 7)]) (by rfl) sc_L_s5_level.nd (k_piL (K := K) rfl (pe_call (ok_L_s5_next TX) (hr.mono (by decide)) (by rfl) TX.g_L_s5_next TX.f_L_s5_next.kp TX.bd_L_s5_next .nil pass0 (pa_cons (pv 5) (pa_cons (pv 1) (pa_cons (pv 2) pa_nil))))) (blkOk_by (own := [("_law_taken", 6), ("_law_after", 7)]) (N := N_L_s5_level) (sc := defScope s_L_s5_level) (by decide +kernel)) (fun _ _ _ _ _ => (k_pgT2 (K := K) rfl rfl (pg_name (i := 6) sc_L_s5_level.nd rfl (Or.inl rfl)) (pg_name (i := 7) sc_L_s5_level.nd rfl (Or.inl rfl)))) (fun _ _ _ _ _ => pts_nil) (fun _ _ _ _ _ => (pe_tup (pa_cons (pe_op (k_catT (K := K) rfl) (pv 4) (pe_tup (pa_cons (pv 6) pa_nil))) (pa_cons (pv 7) pa_nil))))) pa_nil)))))
      (pss_one (ps_ret (pv 3))))), ?_⟩
    refine ⟨sz60 (by simp), fun D nD => ?_⟩
    have hyl : ys.length = L.length := by rw [DpAll.len hA, List.length_map]
    refine ⟨.ref a, rfl, a, rfl, ⟨_, .inl (.inl (same_upd nD _ _ hS))⟩, for_list (K := K) (xs := ys) (fun i σ H' => ∃ (y4 y5 : Option V) (zs : List V), σ = [some (.ref a), some (.int (k : Int)), some (.int (c : Int)), some (.ref D), y4, y5, none, none] ∧ Same H H' ∧ H' D = some (.lst zs) ∧ DpAll K H' zs ((lng k c (L.take i)).map dLv)) ⟨none, none, [], rfl, same_upd nD, upd_same, .nil⟩ (fun i σ H' _ h => by obtain ⟨_, _, _, _, h, _⟩ := h; exact .inl (.inl (h _ _ hS))) ?_ ?_⟩
    · rintro i x σ H1 hx ⟨y4, y5, zs, rfl, s1, hD, hZ⟩
      have hil : i < L.length := by have := (List.getElem?_eq_some_iff.mp hx).1; omega
      have hg := List.getElem?_eq_getElem hil
      obtain ⟨v, hv, hd⟩ := DpAll.get hA (i := i) (d := dLv L[i]) (by rw [List.getElem?_map, hg]; rfl)
      rw [hv] at hx
      cases hx
      obtain ⟨t, ap, b, rfl, ht, hap, hb⟩ := dLv_inv hd
      obtain ⟨g1, g2, g3⟩ := hps _ (List.getElem_mem hil)
      refine ⟨t, _, rfl, Same.tup s1 ht, rfl, _, _, rfl, _, _, rfl, rfl, ?_⟩
      refine ⟨.ref D, rfl, .inl ⟨rfl, _, .inl (.inl hD)⟩, ?_⟩
      refine ⟨.ref b, rfl, _, rfl, _, rfl, b, _, k, c, rfl, Same.tup s1 hb, g1, g2, fun H2 p ns s2 hp hN => ⟨p, rfl, ⟨_, .inl (.inl hp)⟩, fun D2 nD2 => ?_⟩⟩
      have hnl : ns.length = (nxt k c L[i].2).length := by rw [DpAll.len hN, List.length_map]
      have hnn := nxt_len (k := k) (c := c) (st := L[i].2)
      refine lc_all (K := K) (walk_list (xs := ns)) (((nxt k c L[i].2).map fun m => (L[i].1 ++ [m], sa L[i].2 m)).map dLv) (by rw [List.length_map, List.length_map, hnl]) (tf_lv _) (by omega) nD2 (fun _ s' => .inl (.inl (s' _ _ hp))) ?_ ?_ mono_pair (fun σ' H' Q Q' h => h _ _)
      · rintro j x H3 H3' hj s3 ⟨rfl, hx⟩ d hd R hR
        have hj' : j < (nxt k c L[i].2).length := by omega
        have hgj := List.getElem?_eq_getElem hj'
        obtain ⟨v, hv, hdv⟩ := DpAll.get hN (i := j) (d := dPr L[i].2 (nxt k c L[i].2)[j]) (by rw [List.getElem?_map, hgj]; rfl)
        rw [hv] at hx
        cases hx
        rw [List.getElem?_map, List.getElem?_map, hgj] at hd
        cases hd
        obtain ⟨t2, b2, rfl, ht2, hb2⟩ := dPr_inv hdv
        refine ⟨t2, _, rfl, Same.tup s3 ht2, rfl, _, _, rfl, _, _, rfl, rfl, rfl, rfl, ?_⟩
        refine ⟨.ref ap, rfl, _, rfl, sz60 (by simp), fun u nu => ?_⟩
        have s4 := same_upd (o := .tup [V.int (((nxt k c L[i].2)[j] : Nat) : Int)]) nu
        refine cat_read (Same.tup (s1.trans (s2.trans (s3.trans s4))) hap) (.inl (.inl upd_same)) (by simp [vi]; omega) fun p4 H4 s5 h5 => ⟨.ref b2, rfl, sz60 (by simp), fun u2 nu2 => ?_⟩
        have s6 := same_upd (o := .tup [V.ref p4, V.ref b2]) nu2
        refine hR _ _ (s4.trans (s5.trans s6)) (.tup (.inl (.inl upd_same)) (.cons ?_ (.cons ?_ .nil)))
        · refine dp_tup ?_
          rw [← vi_ci, vi_app]
          exact Same.tup s6 h5
        · refine dp_tup ?_
          rw [← vi_ci]
          exact Same.tup (s3.trans (s4.trans (s5.trans s6))) hb2
      · intro H3 acc s3 ha3 hA3
        have sH3 := s2.trans s3
        have hD3 := sH3 _ _ hD
        have hZ3 := DpAll.same sH3 hZ
        have zl := DpAll.len hZ
        have zl2 := lng_len (k := k) (c := c) (L := L.take i) fun ps hp => (hps ps (List.mem_of_mem_take hp)).1
        have zl3 : (L.take i).length ≤ 240 := by rw [List.length_take]; omega
        have al := DpAll.len hA3
        rw [List.length_map] at zl
        rw [List.length_map, List.length_map] at al
        refine ⟨D, D2, zs, acc, rfl, rfl, hD3, ha3, sz60 (by omega), ?_⟩
        have kp : Keep K H3 (upd H3 D (.lst (zs ++ acc))) := But.keep But.upd hD3
        refine ⟨_, _, _, rfl, Same.mut (s1.trans sH3) nD, upd_same, ?_⟩
        rw [lng_take hg, List.map_append]
        exact DpAll.append (DpAll.keep kp (tf_lv _) hZ3) (DpAll.keep kp (tf_lv _) hA3)
    · rintro σ H1 ⟨y4, y5, zs, rfl, s1, hD, hZ⟩
      rw [hyl, List.take_length] at hZ
      exact ⟨.ref D, rfl, q H1 D zs s1 nD hD hZ⟩
end
section
variable {P : Program} {w : World} {K : PySem.W.Frag} {mg : Str → Option Value} {base : Heap}
def sp_L_s5_followed (K : PySem.W.Frag) : Sp := fun vs H Q _ => ∃ (k c f : Nat) (p : List Nat), vs = [.int (k : Int), .int (c : Int)] ∧ k ≤ 60 ∧ c ≤ 60 ∧ KOk k c f p ∧ ∀ H' a, Same H H' → SqT K H' a (vi p) → Q (.ref a) H'
theorem ok_L_s5_followed (TX : Tx K mg) : FnOk P w K mg base CX0 8 TX.a_L_s5_followed TX.fd_L_s5_followed ["_law_room", "_law_wear"] (sp_L_s5_followed K) := by
  refine TX.f_L_s5_followed.ok sc_L_s5_followed (fun vs H Q E h => ?_) (fun cdv A outer s H vs Q E hr h => ?_)
  · obtain ⟨k, c, f, p, rfl, _⟩ := h; rfl
  · obtain ⟨k, c, f, p, rfl, hk, hc, O, q⟩ := h
    refine ⟨_, (pss_cons (ps_asg (pe_tup (pa_cons (pe_tup pa_nil) (pa_cons (pe_tup pa_nil) pa_nil))) (pg_tup rfl (pgs_cons (pg_name (i := 2) sc_L_s5_followed.nd rfl (.inl rfl)) (pgs_cons (pg_name (i := 3) sc_L_s5_followed.nd rfl (.inl rfl)) pgs_nil))))
      (pss_cons (ps_for PassesOwn.never rfl (pi_range1 (by rfl) TX.b_range (pa_cons pe_int pa_nil)) (pg_name (i := 4) sc_L_s5_followed.nd rfl (.inl rfl))
        (pss_cons (ps_set (i := 5) sc_L_s5_followed.nd rfl (.inl rfl) (pe_call (ok_best_merge TX) (hr.mono (by decide)) (by rfl) TX.g_best_merge TX.f_best_merge.kp TX.bd_best_merge .nil pass0 (pa_cons (pv 3) (pa_cons (pv 0) (pa_cons (pv 1) pa_nil)))))
        (pss_cons (ps_if (pt_cmpR op_isN (pv 5) pe_non (nomark _))
          (pss_one (ps_ret (pv 2)))
          pss_nil)
        (pss_one (ps_par (i := 2) (j := 3) (by rfl) sc_L_s5_followed.nd rfl rfl (by decide) rfl rfl (pa_cons (pe_op (k_catT (K := K) rfl) (pv 2) (pe_tup (pa_cons (pv 5) pa_nil))) (pa_cons (pe_call (ok_L_s5_after TX) (hr.mono (by decide)) (by rfl) TX.g_L_s5_after TX.f_L_s5_after.kp TX.bd_L_s5_after .nil pass0 (pa_cons (pv 3) (pa_cons (pv 5) pa_nil))) pa_nil)) (by rfl))))))
      (pss_one (ps_ret pe_non)))), ?_⟩
    have hf := O.f19
    refine ⟨sz60 (by simp), fun t1 n1 => ⟨sz60 (by simp), fun t2 n2 => ⟨sz60 (by simp), fun t3 n3 => ?_⟩⟩⟩
    have u1 := same_upd (o := .tup []) n1
    have u2 := same_upd (o := .tup []) n2
    have u3 := same_upd (o := .tup [V.ref t1, V.ref t2]) n3
    refine ⟨t3, _, rfl, .inl (.inl upd_same), rfl, _, _, rfl, _, _, rfl, rfl, ?_⟩
    refine ⟨_, rfl, by decide, by decide, for_range (lo := 0) (n := (100 : Int).toNat) (fun i σ H' => ∃ (y4 y5 : Option V) (a b : Addr) (p' s' : List Nat), σ = [some (.int (k : Int)), some (.int (c : Int)), some (.ref a), some (.ref b), y4, y5] ∧ Same H H' ∧ SqT K H' a (vi p') ∧ SqT K H' b (vi s') ∧ fol k c i = some (p', s') ∧ i ≤ f) ⟨none, none, t1, t2, [], [], rfl, u1.trans (u2.trans u3), .inl (.inl (u3 _ _ (u2 _ _ upd_same))), .inl (.inl (u3 _ _ upd_same)), rfl, Nat.zero_le _⟩ ?_ ?_⟩
    · rintro i σ H1 hi ⟨y4, y5, a, b, p', s', rfl, s1, ha, hb, hfol, hif⟩
      obtain ⟨hst, hpl⟩ := fol_sta hfol
      refine ⟨.ref b, rfl, _, rfl, _, rfl, b, s', k, c, rfl, hb, hk, hc, hst, fun H2 m s2 hB => ?_, fun H2 s2 hN => ?_⟩
      · refine ⟨_, rfl, rfl, false, rfl, iteF ?_⟩
        have hnx : fol k c (i + 1) = some (p' ++ [m], sa s' m) := by rw [fol_succ hfol, bstm_of hB]
        have hif2 : i + 1 ≤ f := by
          by_cases e : i = f
          · rw [e, O.fnone] at hnx; cases hnx
          · omega
        refine ⟨.ref a, rfl, _, rfl, sz60 (by simp), fun u nu => ?_⟩
        have s3 := same_upd (o := .tup [V.int (m : Int)]) nu
        refine cat_read (Same.tup (s2.trans s3) ha) (.inl (.inl upd_same)) (by simp [vi]; omega) fun a4 H4 s4 h4 => ?_
        refine ⟨.ref b, rfl, _, rfl, b, s', m, rfl, Same.tup (s2.trans (s3.trans s4)) hb, hB.2.1, by have := hst.1; omega, fun H5 b5 s5 h5 => ?_⟩
        refine ⟨_, _, rfl, _, _, a4, b5, _, _, rfl, s1.trans (s2.trans (s3.trans (s4.trans s5))), ?_, h5, hnx, hif2⟩
        rw [vi_app]
        exact Same.tup s5 h4
      · refine ⟨_, rfl, rfl, true, rfl, iteT ⟨.ref a, rfl, ?_⟩⟩
        have hnx : fol k c (i + 1) = none := by rw [fol_succ hfol, bstm_no hN]
        have hie : i = f := by
          by_cases e : i = f
          · exact e
          · obtain ⟨ps, hps⟩ := O.fsome (i + 1) (by omega)
            rw [hps] at hnx; cases hnx
        obtain ⟨s'', hs''⟩ := O.pl
        rw [hie, hs''] at hfol
        cases hfol
        exact q H2 a (s1.trans s2) (Same.tup s2 ha)
    · rintro σ H1 ⟨y4, y5, a, b, p', s', rfl, s1, ha, hb, hfol, hif⟩
      exact absurd (show (100 : Int).toNat ≤ f from hif) (by rw [show (100 : Int).toNat = 100 from rfl]; omega)
end
section
variable {P : Program} {w : World} {K : PySem.W.Frag} {mg : Str → Option Value} {base : Heap}
theorem dp_ks {H : Hp} : ∀ {xs : List V} (mss : List (List Int)), DpAll K H xs (mss.map dT) → ∃ ks : List (Addr × List Int), xs = ks.map (fun p => V.ref p.1) ∧ ks.map (fun p => p.2) = mss ∧ ∀ p, p ∈ ks → SqT K H p.1 (p.2.map V.int)
  | xs, [], h => by cases h; exact ⟨[], rfl, rfl, fun _ h => nomatch h⟩
  | xs, m :: mss, h => by
    cases h with
    | cons a b =>
      obtain ⟨t, rfl, ht⟩ := Dp.intsInv a
      obtain ⟨ks, rfl, rfl, h3⟩ := dp_ks mss b
      exact ⟨(t, m) :: ks, rfl, rfl, fun p hp => by
        rcases List.mem_cons.mp hp with h | h
        · rw [h]; exact ht
        · exact h3 p h⟩
theorem sh_lv (L : List (List Nat × List Nat)) : Sh 3 (.list (L.map dLv)) := Sh.lst fun d h => by
  obtain ⟨ps, _, rfl⟩ := List.mem_map.mp h
  refine Sh.tup fun d hd => ?_
  rcases List.mem_cons.mp hd with h | h
  · rw [h]; exact Sh.tup (Sh.ints _)
  · rcases List.mem_cons.mp h with h | h
    · rw [h]; exact Sh.tup (Sh.ints _)
    · cases h
theorem eqv_nil {ds : List PyData} : PyData.eqv (.list ds) (.list []) = decide (ds = []) := by
  cases ds with
  | nil => rfl
  | cons d ds => simp [PyData.eqv, PyData.eqvAll]
theorem lvl_ne {k c l : Nat} {ps : List Nat × List Nat} (h : ps ∈ lvl k c (l + 1)) : ps.2 ≠ [] := fun z => by
  rw [lvl_succ] at h
  obtain ⟨r, _, h⟩ := List.mem_flatMap.mp h
  obtain ⟨m, _, rfl⟩ := List.mem_map.mp h
  have : (sa r.2 m).length = 0 := by rw [show sa r.2 m = [] from z]; rfl
  unfold sa at this
  rw [List.length_append] at this
  simp at this
def sp_L_s5_right (K : PySem.W.Frag) : Sp := fun vs H Q _ => ∃ (k c f : Nat) (p : List Nat), vs = [.int (k : Int), .int (c : Int)] ∧ k ≤ 60 ∧ c ≤ 60 ∧ KOk k c f p ∧ ∀ H', Same H H' → Q (.bl true) H'
theorem ok_L_s5_right (TX : Tx K mg) : FnOk P w K mg base CX0 9 TX.a_L_s5_right TX.fd_L_s5_right ["_law_room", "_law_wear"] (sp_L_s5_right K) := by
  refine TX.f_L_s5_right.ok sc_L_s5_right (fun vs H Q E h => ?_) (fun cdv A outer s H vs Q E hr h => ?_)
  · obtain ⟨k, c, f, p, rfl, _⟩ := h; rfl
  · obtain ⟨k, c, f, p, rfl, hk, hc, O, q⟩ := h
    refine ⟨_, (pss_cons (ps_par3 (i := 2) (j := 3) (l := 4) (by rfl) sc_L_s5_right.nd rfl rfl rfl (by decide) (by decide) (by decide) rfl rfl rfl (pa_cons (pe_lst (pa_cons (pe_tup (pa_cons (pe_tup pa_nil) (pa_cons (pe_tup pa_nil) pa_nil))) pa_nil)) (pa_cons pe_int (pa_cons (pe_call (ok_lifetime TX) (hr.mono (by decide)) (by rfl) TX.g_lifetime TX.f_lifetime.kp TX.bd_lifetime .nil pass0 (pa_cons (pv 0) (pa_cons (pv 1) pa_nil))) pa_nil))) (by rfl))
      (pss_cons (ps_set (i := 5) sc_L_s5_right.nd rfl (.inl rfl) (pv 2))
      (pss_cons (ps_while PassesOwn.never (pt_cmpR (op_neD hr.units) (pv 2) (pe_lst pa_nil) (nomark _))
        (pss_cons (ps_if (pt_cmpR op_gt (pe_callB (id := "len") (k_len (K := K) rfl) (by rfl) TX.b_len (by decide +kernel) (pa_cons (pv 2) pa_nil)) pe_int (nomark _))
          (pss_one (ps_ret pe_bl))
          pss_nil)
        (pss_cons (ps_set (i := 6) sc_L_s5_right.nd rfl (.inl rfl) (pe_callB (id := "sorted") (k_sortSF (K := K) (P := P) (w := w) rfl rfl rfl rfl) (by rfl) TX.b_sorted (by decide +kernel) (pa_cons (pe_callTy (T := "set") (k_setF (K := K) (P := P) (w := w) rfl rfl rfl rfl hr.units) (by rfl) TX.b_set (by decide +kernel) (pa_cons (pe_lc (own := [("_law_plan", 8), ("_law_levels", 9)]) (by rfl) sc_L_s5_right.nd (k_piL (K := K) rfl (pv 2)) (blkOk_by (own := [("_law_plan", 8), ("_law_levels", 9)]) (N := N_L_s5_right) (sc := defScope s_L_s5_right) (by decide +kernel)) (fun _ _ _ _ _ => (k_pgT2 (K := K) rfl rfl (pg_name (i := 8) sc_L_s5_right.nd rfl (Or.inl rfl)) (pg_name (i := 9) sc_L_s5_right.nd rfl (Or.inl rfl)))) (fun _ _ _ _ _ => pts_nil) (fun _ _ _ _ _ => (pv 9))) pa_nil)) pa_nil)))
        (pss_cons (ps_if (pt_cmpR op_ne (pe_callB (id := "max") (cr_max rfl) (by rfl) TX.b_max (by decide +kernel) (pa_cons (pe_lc (own := [("_law_levels", 9)]) (by rfl) sc_L_s5_right.nd (k_piL (K := K) rfl (pv 6)) (blkOk_by (own := [("_law_levels", 9)]) (N := N_L_s5_right) (sc := defScope s_L_s5_right) (by decide +kernel)) (fun _ _ _ _ _ => (pg_name (i := 9) sc_L_s5_right.nd rfl (Or.inl rfl))) (fun _ _ _ _ _ => pts_nil) (fun _ _ _ _ _ => (pe_call (ok_remaining TX) (hr.mono (by decide)) (by rfl) TX.g_remaining TX.f_remaining.kp TX.bd_remaining .nil pass0 (pa_cons (pv 9) (pa_cons (pv 0) (pa_cons (pv 1) pa_nil)))))) pa_nil)) (pe_op op_sub (pv 4) (pv 3)) (nomark _))
          (pss_one (ps_ret pe_bl))
          pss_nil)
        (pss_one (ps_par3 (i := 5) (j := 2) (l := 3) (by rfl) sc_L_s5_right.nd rfl rfl rfl (by decide) (by decide) (by decide) rfl rfl rfl (pa_cons (pv 2) (pa_cons (pe_call (ok_L_s5_level TX) (hr.mono (by decide)) (by rfl) TX.g_L_s5_level TX.f_L_s5_level.kp TX.bd_L_s5_level .nil pass0 (pa_cons (pv 2) (pa_cons (pv 0) (pa_cons (pv 1) pa_nil)))) (pa_cons (pe_op op_add (pv 3) pe_int) pa_nil))) (by rfl)))))))
      (pss_cons (ps_if (PW.pt (pw_or (pt_cmpR op_ne (pe_op op_sub (pv 3) pe_int) (pv 4) (nomark _)) (pw_or1 (pt_cmpR (op_neD hr.units) (pe_lc (own := [("_law_plan", 8), ("_law_levels", 9)]) (by rfl) sc_L_s5_right.nd (k_piL (K := K) rfl (pv 5)) (blkOk_by (own := [("_law_plan", 8), ("_law_levels", 9)]) (N := N_L_s5_right) (sc := defScope s_L_s5_right) (by decide +kernel)) (fun _ _ _ _ _ => (k_pgT2 (K := K) rfl rfl (pg_name (i := 8) sc_L_s5_right.nd rfl (Or.inl rfl)) (pg_name (i := 9) sc_L_s5_right.nd rfl (Or.inl rfl)))) (fun _ _ _ _ _ => pts_nil) (fun _ _ _ _ _ => (pv 8))) (pe_lst (pa_cons (pe_call (ok_L_s5_followed TX) (hr.mono (by decide)) (by rfl) TX.g_L_s5_followed TX.f_L_s5_followed.kp TX.bd_L_s5_followed .nil pass0 (pa_cons (pv 0) (pa_cons (pv 1) pa_nil))) pa_nil)) (nomark _)))))
        (pss_one (ps_ret pe_bl))
        pss_nil)
      (pss_cons (ps_set (i := 7) sc_L_s5_right.nd rfl (.inl rfl) (pe_call (ok_L_s5_profile TX) (hr.mono (by decide)) (by rfl) TX.g_L_s5_profile TX.f_L_s5_profile.kp TX.bd_L_s5_profile .nil pass0 (pa_cons (pe_ix (k_ixT (K := K) rfl) (pe_ix (k_ixL (K := K) rfl) (pv 5) pe_int (fun _ _ => rfl)) pe_int (fun _ _ => rfl)) pa_nil)))
      (pss_cons (ps_if (pt_cmpR (op_eqD hr.units) (pv 7) (pe_lst pa_nil) (nomark _))
        (pss_one (ps_ret (pe_or (pe_cmpR op_eq (pv 0) pe_int (nomark _)) (pe_one (pe_cmpR op_eq (pv 1) pe_int (nomark _))))))
        pss_nil)
      (pss_one (ps_ret (pe_and (pe_cmpR op_eq (pe_callB (id := "max") (cr_max rfl) (by rfl) TX.b_max (by decide +kernel) (pa_cons (pe_lc (own := [("_law_written", 10), ("_law_runs", 11)]) (by rfl) sc_L_s5_right.nd (k_piL (K := K) rfl (pv 7)) (blkOk_by (own := [("_law_written", 10), ("_law_runs", 11)]) (N := N_L_s5_right) (sc := defScope s_L_s5_right) (by decide +kernel)) (fun _ _ _ _ _ => (k_pgT2 (K := K) rfl rfl (pg_name (i := 10) sc_L_s5_right.nd rfl (Or.inl rfl)) (pg_name (i := 11) sc_L_s5_right.nd rfl (Or.inl rfl)))) (fun _ _ _ _ _ => pts_nil) (fun _ _ _ _ _ => (pv 11))) pa_nil)) (pv 0) (nomark _)) (pe_one (pe_cmpR op_eq (pe_callB (id := "max") (cr_max rfl) (by rfl) TX.b_max (by decide +kernel) (pa_cons (pe_lc (own := [("_law_written", 10), ("_law_runs", 11)]) (by rfl) sc_L_s5_right.nd (k_piL (K := K) rfl (pv 7)) (blkOk_by (own := [("_law_written", 10), ("_law_runs", 11)]) (N := N_L_s5_right) (sc := defScope s_L_s5_right) (by decide +kernel)) (fun _ _ _ _ _ => (k_pgT2 (K := K) rfl rfl (pg_name (i := 10) sc_L_s5_right.nd rfl (Or.inl rfl)) (pg_name (i := 11) sc_L_s5_right.nd rfl (Or.inl rfl)))) (fun _ _ _ _ _ => pts_nil) (fun _ _ _ _ _ => (pv 10))) pa_nil)) (pv 1) (nomark _)))))))))))), ?_⟩
    have hf := O.f19
    have e0 : (bin (k + c) k : Int) - 1 = (f : Int) := by
      have h0 : Sta k c [] := ⟨Nat.zero_le _, fun x hx => by cases hx⟩
      have h1 := remv_brd h0
      obtain ⟨ps, h2, h3⟩ := (O.lv 0 (Nat.zero_le _)).ex
      have : ps = ([], []) := by simpa [lvl] using h2
      rw [this] at h3
      rw [h3] at h1
      simp [brd] at h1
      omega
    refine ⟨sz60 (by simp), fun t1 n1 => ⟨sz60 (by simp), fun t2 n2 => ⟨sz60 (by simp), fun t3 n3 => ⟨sz60 (by simp), fun l0 nl0 => ?_⟩⟩⟩⟩
    have u1 := same_upd (o := .tup []) n1
    have u2 := same_upd (o := .tup []) n2
    have u3 := same_upd (o := .tup [V.ref t1, V.ref t2]) n3
    have u4 := same_upd (o := .lst [V.ref t3]) nl0
    have w1 : SqT K _ t1 (vi []) := .inl (.inl (u4 _ _ (u3 _ _ (u2 _ _ (upd_same (H := H) (a := t1) (o := .tup []))))))
    have w2 : SqT K _ t2 (vi []) := .inl (.inl (u4 _ _ (u3 _ _ (upd_same (a := t2) (o := .tup [])))))
    have w3 : SqT K _ t3 [V.ref t1, V.ref t2] := .inl (.inl (u4 _ _ (upd_same (a := t3) (o := .tup [V.ref t1, V.ref t2]))))
    have w4 := upd_same (H := upd (upd (upd H t1 (.tup [])) t2 (.tup [])) t3 (.tup [V.ref t1, V.ref t2])) (a := l0) (o := .lst [V.ref t3])
    have s0 := u1.trans (u2.trans (u3.trans u4))
    refine ⟨_, rfl, _, rfl, k, c, rfl, hk, hc, fun H1 s1 => ?_⟩
    rw [e0]
    have hz0 : DpAll K H1 [V.ref t3] ((lvl k c 0).map dLv) := .cons (.tup (Same.tup s1 w3) (.cons (dp_tup (ns := []) (Same.tup s1 w1)) (.cons (dp_tup (ns := []) (Same.tup s1 w2)) .nil))) .nil
    have hl0 := s1 _ _ w4
    have s01 := s0.trans s1
    clear w1 w2 w3 w4 u1 u2 u3 u4
    refine ⟨_, _, _, rfl, .ref l0, rfl, ?_⟩
    -- level by level
    refine ⟨fun m σ G => ∃ (l : Nat) (lv bf : Addr) (zs bs : List V) (y6 : Option V), m + l = f + 1 ∧ σ = [some (.int (k : Int)), some (.int (c : Int)), some (.ref lv), some (.int (l : Int)), some (.int (f : Int)), some (.ref bf), y6, none, none, none, none, none] ∧ Same H G ∧ G lv = some (.lst zs) ∧ DpAll K G zs ((lvl k c l).map dLv) ∧ G bf = some (.lst bs) ∧ DpAll K G bs ((lvl k c (l - 1)).map dLv), ⟨f + 1, 0, l0, l0, _, _, none, rfl, rfl, s01, hl0, hz0, hl0, hz0⟩, ?_⟩
    rintro m σ G ⟨l, lv, bf, zs, bs, y6, hm, rfl, sG, hlv, hz, hbf, hb⟩
    refine ⟨.ref lv, rfl, sz60 (by simp), fun e ne => ?_⟩
    have s2 := same_upd (o := .lst []) ne
    refine ⟨_, .list [], .lst (.inl (.inl (s2 _ _ hlv))) (DpAll.same s2 hz), .lst (.inl (.inl upd_same)) .nil, (sh_lv _).shaped (by decide), by decide, ?_⟩
    rw [eqv_nil]
    have hlv2 := s2 _ _ hlv
    have hz2 := DpAll.same s2 hz
    have hbf2 := s2 _ _ hbf
    have hb2 := DpAll.same s2 hb
    have sG2 := sG.trans s2
    generalize upd G e (.lst []) = G2 at *
    clear hlv hz hbf hb s2 ne
    by_cases hlf : l ≤ f
    · have LO := O.lv l hlf
      obtain ⟨px, hpx, ex⟩ := LO.ex
      have hne : ¬ (lvl k c l).map dLv = [] := fun z => by rw [List.map_eq_nil_iff.mp z] at hpx; cases hpx
      refine ⟨true, by rw [decide_eq_false hne]; rfl, iteT ⟨fun σ' H' => ∃ (lv bf : Addr) (zs bs : List V) (y6 : Option V), σ' = [some (.int (k : Int)), some (.int (c : Int)), some (.ref lv), some (.int ((l + 1 : Nat) : Int)), some (.int (f : Int)), some (.ref bf), y6, none, none, none, none, none] ∧ Same H H' ∧ H' lv = some (.lst zs) ∧ DpAll K H' zs ((lvl k c (l + 1)).map dLv) ∧ H' bf = some (.lst bs) ∧ DpAll K H' bs ((lvl k c l).map dLv), fun σ' H' h => ?_, ?_⟩⟩
      · obtain ⟨lv, bf, zs, bs, y6, h1, h2⟩ := h
        exact ⟨m - 1, by omega, l + 1, lv, bf, zs, bs, y6, by omega, h1, h2⟩
      have hzl : zs.length = (lvl k c l).length := by rw [DpAll.len hz2, List.length_map]
      have hV := LO.len
      refine ⟨.ref lv, rfl, lv, _, rfl, .inl (.inl (.inl hlv2)), _, _, rfl, rfl, false, blF (by omega), iteF ?_⟩
      -- the states
      refine ⟨.ref lv, rfl, lv, rfl, ⟨_, .inl (.inl hlv2)⟩, fun D nD => ?_⟩
      refine lc_all (K := K) (walk_list (xs := zs)) (((lvl k c l).map fun ps => ci ps.2).map dT) (by rw [List.length_map, List.length_map, hzl]) (fun d h => by obtain ⟨x, _, rfl⟩ := List.mem_map.mp h; exact .tup (tf_ints _)) (by omega) nD (fun _ s' => .inl (.inl (s' _ _ hlv2))) ?_ ?_ mono_pair (fun σ' H' Q Q' h => h _ _)
      · rintro j x H3 H3' hj s3 ⟨rfl, hx⟩ d hd R hR
        have hj' : j < (lvl k c l).length := by omega
        have hgj := List.getElem?_eq_getElem hj'
        obtain ⟨v, hv, hdv⟩ := DpAll.get hz2 (i := j) (d := dLv (lvl k c l)[j]) (by rw [List.getElem?_map, hgj]; rfl)
        rw [hv] at hx
        cases hx
        rw [List.getElem?_map, List.getElem?_map, hgj] at hd
        cases hd
        obtain ⟨t, a, b, rfl, ht, ha, hb⟩ := dLv_inv hdv
        refine ⟨t, _, rfl, Same.tup s3 ht, rfl, _, _, rfl, _, _, rfl, rfl, rfl, rfl, .ref b, rfl, hR _ _ (Same.refl _) (dp_tup ?_)⟩
        rw [← vi_ci]
        exact Same.tup s3 hb
      intro H3 acc s3 hD3 hA3
      obtain ⟨ks, rfl, hks, hkT⟩ := dp_ks _ hA3
      obtain ⟨Ds, hDs, hin⟩ := LO.few
      have kmem : ∀ p, p ∈ ks → ∃ ps, ps ∈ lvl k c l ∧ p.2 = ci ps.2 := fun p hp => by
        have : p.2 ∈ ks.map fun p => p.2 := List.mem_map.mpr ⟨p, hp, rfl⟩
        rw [hks] at this
        obtain ⟨ps, h1, h2⟩ := List.mem_map.mp this
        exact ⟨ps, h1, h2.symm⟩
      refine ⟨D, ks, Ds.map ci, rfl, .inl (.inl hD3), hkT, by rw [List.length_map]; exact hDs, fun p hp => ?_, fun S L nS hL1 hL2 hLn => ?_⟩
      · obtain ⟨ps, h1, h2⟩ := kmem p hp
        rw [h2]; exact List.mem_map.mpr ⟨_, hin ps h1, rfl⟩
      have s4 := same_upd (o := SetTO P w S L) nS
      refine ⟨S, L, rfl, upd_same, fun p hp => Same.tup s4 (hkT p (hL1 p hp)), fun h2 p hp hnil => ?_, fun ys mss S2 hA pm pw nS2 => ?_⟩
      · -- only the first level has an empty state, and no other
        obtain ⟨ps, h3, h4⟩ := kmem p (hL1 p hp)
        rw [hnil] at h4
        have h5 : ps.2 = [] := List.map_eq_nil_iff.mp h4.symm
        cases l with
        | succ l => exact lvl_ne h3 h5
        | zero =>
          have := nd_len (L.map (·.2)) [[]] hLn fun x hx => by
            obtain ⟨r, hr, rfl⟩ := List.mem_map.mp hx
            obtain ⟨ps, h6, h7⟩ := kmem r (hL1 r hr)
            have e : ps = ([], []) := by simpa [lvl] using h6
            rw [h7, e]; exact List.mem_singleton.mpr rfl
          rw [List.length_map, List.length_singleton] at this; omega
      have s5 := same_upd (o := .lst ys) nS2
      have s25 := s3.trans (s4.trans s5)
      have hLl : L.length ≤ 62 := by
        have := nd_len (L.map (·.2)) (Ds.map ci) hLn fun x hx => by
          obtain ⟨r, hr, rfl⟩ := List.mem_map.mp hx
          obtain ⟨ps, h6, h7⟩ := kmem r (hL1 r hr)
          rw [h7]; exact List.mem_map.mpr ⟨_, hin ps h6, rfl⟩
        rw [List.length_map, List.length_map] at this; omega
      have hml : mss.length = L.length := by rw [pm.length_eq, List.length_map]
      have hyl : ys.length = mss.length := by rw [DpAll.len hA, List.length_map]
      have hA5 := DpAll.same s5 hA
      have mmem : ∀ ms, ms ∈ mss → ∃ ps, ps ∈ lvl k c l ∧ ms = ci ps.2 := fun ms h => by
        obtain ⟨r, hr, rfl⟩ := List.mem_map.mp (pm.mem_iff.mp h)
        exact kmem r (hL1 r hr)
      have mall : ∀ ps, ps ∈ lvl k c l → ci ps.2 ∈ mss := fun ps h => by
        have : ci ps.2 ∈ ks.map fun p => p.2 := by rw [hks]; exact List.mem_map.mpr ⟨ps, h, rfl⟩
        obtain ⟨r, hr, e⟩ := List.mem_map.mp this
        rw [← e]
        exact pm.mem_iff.mpr (hL2 r hr)
      have na_ci : ∀ st : List Nat, (ci st).map Int.toNat = st := fun st => by
        unfold ci; rw [List.map_map]
        conv => rhs; rw [← List.map_id st]
        exact List.map_congr_left fun x _ => rfl
      refine ⟨.ref S2, rfl, S2, rfl, ⟨_, .inl (.inl upd_same)⟩, fun D3 nD3 => ?_⟩
      refine lc_ints (K := K) (walk_list (xs := ys)) (mss.map fun ms => remv k c (ms.map Int.toNat)) (by rw [List.length_map, hyl]) (by omega) nD3 (fun _ s' => .inl (.inl (s' _ _ upd_same))) ?_ ?_ (fun x σ' H' Q Q' h => h _ _) (fun σ' H' Q Q' h => h _ _)
      · rintro j x H6 H6' hj s6 ⟨rfl, hx⟩ b hb R hR
        have hj' : j < mss.length := by omega
        have hgj := List.getElem?_eq_getElem hj'
        obtain ⟨v, hv, hdv⟩ := DpAll.get hA5 (i := j) (d := dT mss[j]) (by rw [List.getElem?_map, hgj]; rfl)
        rw [hv] at hx
        cases hx
        rw [List.getElem?_map, hgj] at hb
        cases hb
        obtain ⟨b, rfl, hbb⟩ := Dp.intsInv hdv
        obtain ⟨ps, h1, h2⟩ := mmem _ (List.getElem_mem hj')
        dsimp only at hR
        rw [h2, na_ci] at hR
        rw [h2, ← vi_ci] at hbb
        exact ⟨rfl, rfl, .ref b, rfl, _, rfl, _, rfl, b, ps.2, k, c, rfl, Same.tup s6 hbb, hk, hc, LO.sta ps h1, fun H7 s7 => hR H7 s7⟩
      intro H6 s6 hD6
      refine ⟨D3, _, rfl, .inl (.inl hD6), by rw [List.length_map, ← hyl, DpAll.len hA, List.length_map]; exact List.length_pos_of_mem (mall px hpx), fun mm h1 h2 => ?_⟩
      have emm : mm = (f : Int) - (l : Int) := by
        obtain ⟨ms, h3, rfl⟩ := List.mem_map.mp h1
        obtain ⟨ps, h4, h5⟩ := mmem ms h3
        have h6 := h2 _ (List.mem_map.mpr ⟨_, mall px hpx, rfl⟩)
        rw [na_ci, ex] at h6
        rw [h5, na_ci] at h6 ⊢
        have := LO.le ps h4
        omega
      rw [emm]
      have s26 := s25.trans s6
      have hlv6 := s26 _ _ hlv2
      have hz6 := DpAll.same s26 hz2
      refine ⟨_, rfl, _, rfl, _, _, rfl, rfl, rfl, false, nblF rfl, iteF ?_⟩
      refine ⟨.ref lv, rfl, .ref lv, rfl, _, rfl, _, rfl, lv, zs, lvl k c l, k, c, rfl, hlv6, hz6, hV, fun ps hp => ?_, fun H7 pp zs' s7 np hp hZ => ⟨_, rfl, _, _, rfl, rfl, _, _, _, rfl, ?_⟩⟩
      · have h1 := LO.sta ps hp
        exact ⟨by have := h1.1; omega, fun x hx => (h1.2 x hx).1, by rw [LO.pl ps hp]; omega⟩
      · exact ⟨pp, lv, zs', zs, some (.ref S2), rfl, sG2.trans (s26.trans s7), hp, hZ, s7 _ _ hlv6, DpAll.same s7 hz6⟩
    · have hl : l = f + 1 := by omega
      subst hl
      refine ⟨false, by rw [O.none]; rfl, iteF ?_⟩
      refine ⟨_, rfl, _, _, rfl, rfl, _, rfl, rfl, false, nblF (congrArg V.int (by omega)), iteF ?_⟩
      obtain ⟨s', hone⟩ := O.one
      obtain ⟨sp, hpl⟩ := O.pl
      have hpf := (fol_sta hpl).2
      rw [Nat.add_sub_cancel, hone] at hb2
      have hb2' : DpAll K G2 bs [dLv (p, s')] := hb2
      cases hb2' with
      | cons hx0 hnil =>
        cases hnil
        obtain ⟨t, a, b, rfl, ht, ha, hb⟩ := dLv_inv hx0
        refine ⟨.ref bf, rfl, bf, rfl, ⟨_, .inl (.inl hbf2)⟩, fun D nD => ?_⟩
        refine lc_all (K := K) (walk_list (xs := [V.ref t])) [dT (ci p)] rfl (fun d h => by obtain rfl := List.mem_singleton.mp h; exact .tup (tf_ints _)) (by simp) nD (fun _ s' => .inl (.inl (s' _ _ hbf2))) ?_ ?_ mono_pair (fun σ' H' Q Q' h => h _ _)
        · rintro j x H3 H3' hj s3 ⟨rfl, hx⟩ d hd R hR
          have hj0 : j = 0 := by simp at hj; omega
          subst hj0
          cases hx
          cases hd
          refine ⟨t, _, rfl, Same.tup s3 ht, rfl, _, _, rfl, _, _, rfl, rfl, rfl, rfl, .ref a, rfl, hR _ _ (Same.refl _) (dp_tup ?_)⟩
          rw [← vi_ci]
          exact Same.tup s3 ha
        intro H3 acc s3 hD3 hA3
        refine ⟨_, rfl, _, rfl, k, c, f, p, rfl, hk, hc, O, fun H4 a4 s4 h4 => ⟨sz60 (by simp), fun l4 nl4 => ?_⟩⟩
        have s5 := same_upd (o := .lst [V.ref a4]) nl4
        have sh : Sh 2 (.list [dT (ci p)]) := Sh.lst fun d h => by obtain rfl := List.mem_singleton.mp h; exact Sh.tup (Sh.ints _)
        refine ⟨.list [dT (ci p)], .list [dT (ci p)], .lst (.inl (.inl (s5 _ _ (s4 _ _ hD3)))) (DpAll.same (s4.trans s5) hA3), .lst (.inl (.inl upd_same)) (.cons (dp_tup (by rw [← vi_ci]; exact Same.tup s5 h4)) .nil), sh.shaped (by decide), sh.shaped (by decide), ?_⟩
        rw [SeqAt.eqv_refl _ sh.1]
        refine ⟨false, rfl, iteF ?_⟩
        have s35 := s3.trans (s4.trans s5)
        generalize upd H4 l4 (.lst [V.ref a4]) = H5 at s35 ⊢
        -- the profile
        obtain ⟨hgood, _⟩ := fol_good hpl
        refine ⟨.ref bf, rfl, bf, _, _, _, rfl, rfl, .inl (.inl (s35 _ _ hbf2)), rfl, t, _, _, _, rfl, rfl, Same.tup s35 ht, rfl, a, p, stf p, rfl, Same.tup s35 ha, by omega, hgood.sts, fun H6 F cs s6 nF hF hC => ?_⟩
        have sG6 := sG2.trans (s35.trans s6)
        rw [hpf] at hC
        have hcl : cs.length = f := by rw [DpAll.len hC, dPf_len]
        have shF : Sh 2 (.list (dPf (stf p) f)) := Sh.lst fun d h => by
          unfold dPf at h
          obtain ⟨i, _, rfl⟩ := List.mem_map.mp h
          refine Sh.tup fun d hd => ?_
          rcases List.mem_cons.mp hd with h | h
          · rw [h]; exact Sh.ints [_] _ (.head _)
          · rcases List.mem_cons.mp h with h | h
            · rw [h]; exact Sh.ints [_] _ (.head _)
            · cases h
        refine ⟨.ref F, rfl, sz60 (by simp), fun l7 nl7 => ?_⟩
        have s7 := same_upd (o := .lst []) nl7
        refine ⟨_, .list [], .lst (.inl (.inl (s7 _ _ hF))) (DpAll.same s7 hC), .lst (.inl (.inl upd_same)) .nil, shF.shaped (by decide), by decide, ?_⟩
        rw [eqv_nil]
        have hF7 := s7 _ _ hF
        have hC7 := DpAll.same s7 hC
        have sG7 := sG6.trans s7
        generalize upd H6 l7 (.lst []) = H7 at sG7 hF7 hC7 ⊢
        by_cases hp0 : p = []
        · have hf0 : f = 0 := by rw [← hpf, hp0]; rfl
          subst hf0
          refine ⟨true, rfl, iteT ?_⟩
          have hpr := O.prof
          rw [if_pos hp0] at hpr
          by_cases hk0 : k = 0
          · exact ⟨_, rfl, rfl, true, blT (by rw [hk0]; rfl), iteT (q H7 sG7)⟩
          · have hc0 : c = 0 := by omega
            refine ⟨_, rfl, rfl, false, blF (fun z => hk0 (by have := V.int.inj z; omega)), iteF ⟨_, rfl, rfl, ?_⟩⟩
            rw [blT (show V.int (c : Int) = V.int 0 by rw [hc0]; rfl)]
            exact q H7 sG7
        · have hf1 : 1 ≤ f := by
            rw [← hpf]; exact List.length_pos_iff.mpr hp0
          refine ⟨false, by rw [decide_eq_false fun z => by have := congrArg List.length z; rw [dPf_len] at this; simp at this; omega], iteF ?_⟩
          have hpr := O.prof
          rw [if_neg hp0] at hpr
          obtain ⟨hp1, hp2⟩ := hpr
          have hget : ∀ {j : Nat} {G : Hp} {v : V}, Same H7 G → cs[j]? = some v → ∃ u, v = .ref u ∧ SqT K G u [.int ((mx (stf p (j + 1)) : Nat) : Int), .int (((stf p (j + 1)).length : Nat) : Int)] := fun {j G v} sg hv => by
            have hj : j < f := by have := (List.getElem?_eq_some_iff.mp hv).1; omega
            obtain ⟨v', hv', hd⟩ := DpAll.get hC7 (dPf_at hj)
            rw [hv] at hv'
            cases hv'
            obtain ⟨u, xs, rfl, h1, h2⟩ := Dp.tupInv hd
            cases h2 with
            | cons a b =>
              cases a
              cases b with
              | cons a b =>
                cases a
                cases b
                exact ⟨u, rfl, Same.tup sg h1⟩
          refine ⟨.ref F, rfl, F, rfl, ⟨_, .inl (.inl hF7)⟩, fun E1 nE1 => ?_⟩
          refine lc_ints (K := K) (walk_list (xs := cs)) (ci ((List.range f).map fun i => (stf p (i + 1)).length)) (by rw [ci, List.length_map, List.length_map, List.length_range, hcl]) (by omega) nE1 (fun _ s' => .inl (.inl (s' _ _ hF7))) ?_ ?_ mono_pair (fun σ' H' Q Q' h => h _ _)
          · rintro j x G1 G1' hj sg ⟨rfl, hx⟩ b hb R hR
            obtain ⟨u, rfl, hu⟩ := hget sg hx
            rw [ci, List.getElem?_map, List.getElem?_map, List.getElem?_range (by omega)] at hb
            cases hb
            exact ⟨u, _, rfl, hu, rfl, _, _, rfl, _, _, rfl, rfl, rfl, rfl, _, rfl, hR _ (Same.refl _)⟩
          intro G1 sg1 hE1
          refine ⟨E1, _, rfl, .inl (.inl hE1), by simp [ci]; omega, fun mm h1 h2 => ?_⟩
          rw [mx_of h1 h2, hp1]
          refine ⟨_, rfl, rfl, true, blT rfl, iteT ?_⟩
          have hF8 := sg1 _ _ hF7
          refine ⟨.ref F, rfl, F, rfl, ⟨_, .inl (.inl hF8)⟩, fun E2 nE2 => ?_⟩
          refine lc_ints (K := K) (walk_list (xs := cs)) (ci ((List.range f).map fun i => mx (stf p (i + 1)))) (by rw [ci, List.length_map, List.length_map, List.length_range, hcl]) (by omega) nE2 (fun _ s' => .inl (.inl (s' _ _ hF8))) ?_ ?_ mono_pair (fun σ' H' Q Q' h => h _ _)
          · rintro j x G2 G2' hj sg ⟨rfl, hx⟩ b hb R hR
            obtain ⟨u, rfl, hu⟩ := hget (sg1.trans sg) hx
            rw [ci, List.getElem?_map, List.getElem?_map, List.getElem?_range (by omega)] at hb
            cases hb
            exact ⟨u, _, rfl, hu, rfl, _, _, rfl, _, _, rfl, rfl, rfl, rfl, _, rfl, hR _ (Same.refl _)⟩
          intro G3 sg3 hE2
          refine ⟨E2, _, rfl, .inl (.inl hE2), by simp [ci]; omega, fun mm h1 h2 => ?_⟩
          rw [mx_of h1 h2, hp2]
          refine ⟨_, rfl, rfl, ?_⟩
          rw [blT (show V.int (c : Int) = V.int (c : Int) from rfl)]
          exact q G3 (sG7.trans (sg1.trans sg3))
end
section
variable {P : Program} {w : World} {K : PySem.W.Frag} {mg : Str → Option Value} {base : Heap}
def sp_law (K : PySem.W.Frag) : Sp := fun vs H Q _ => ∃ (a : Addr) (ns : List Int), vs = [.ref a] ∧ SqL K H a (ns.map V.int) ∧ ns.length ≤ 63 ∧ ∀ H', Q (.bl true) H'
theorem nth2 {n : Nat} (x : List V) (h : x.length = n) (i : Nat) (hi : i < (if (if (x.length : Int) < 2 then (x.length : Int) else 2) > 1 then (if (x.length : Int) < 2 then (x.length : Int) else 2) else 1 : Int).toNat) : i ≤ 62 := by
  have : (if (if (x.length : Int) < 2 then (x.length : Int) else 2) > 1 then (if (x.length : Int) < 2 then (x.length : Int) else 2) else 1) ≤ 3 := by split <;> split <;> omega
  omega
theorem ok_law (TX : Tx K mg) : FnOk P w K mg base CX0 10 TX.a_law TX.fd_law ["_law_script"] (sp_law K) := by
  refine TX.f_law.ok sc_law (fun vs H Q E h => ?_) (fun cdv A outer s H vs Q E hr h => ?_)
  · obtain ⟨a, ns, rfl, _⟩ := h; rfl
  · obtain ⟨a, ns, rfl, hS, hlen, q⟩ := h
    refine ⟨_, (pss_cons (ps_set (i := 1) sc_law.nd rfl (.inl rfl) (pe_lst (pa_cons (pe_tup (pa_cons pe_int (pa_cons pe_int pa_nil))) (pa_cons (pe_tup (pa_cons pe_int (pa_cons pe_int pa_nil))) (pa_cons (pe_tup (pa_cons pe_int (pa_cons pe_int pa_nil))) (pa_cons (pe_tup (pa_cons pe_int (pa_cons pe_int pa_nil))) (pa_cons (pe_tup (pa_cons pe_int (pa_cons pe_int pa_nil))) (pa_cons (pe_tup (pa_cons pe_int (pa_cons pe_int pa_nil))) (pa_cons (pe_tup (pa_cons pe_int (pa_cons pe_int pa_nil))) (pa_cons (pe_tup (pa_cons pe_int (pa_cons pe_int pa_nil))) (pa_cons (pe_tup (pa_cons pe_int (pa_cons pe_int pa_nil))) (pa_cons (pe_tup (pa_cons pe_int (pa_cons pe_int pa_nil))) (pa_cons (pe_tup (pa_cons pe_int (pa_cons pe_int pa_nil))) pa_nil)))))))))))))
      (pss_cons (ps_for PassesOwn.never rfl (pi_range1 (by rfl) TX.b_range (pa_cons (pe_callB (id := "max") (call_max2 rfl) (by rfl) TX.b_max (by decide +kernel) (pa_cons pe_int (pa_cons (pe_callB (id := "min") (call_min2 rfl) (by rfl) TX.b_min (by decide +kernel) (pa_cons pe_int (pa_cons (pe_callB (id := "len") (k_len (K := K) rfl) (by rfl) TX.b_len (by decide +kernel) (pa_cons (pv 0) pa_nil)) pa_nil))) pa_nil))) pa_nil)) (pg_name (i := 2) sc_law.nd rfl (.inl rfl))
        (pss_cons (ps_set (i := 3) sc_law.nd rfl (.inl rfl) (pe_call (ok_L_s5_hand TX) (hr.mono (by decide)) (by rfl) TX.g_L_s5_hand TX.f_L_s5_hand.kp TX.bd_L_s5_hand .nil pass0 (pa_cons (pv 0) (pa_cons (pv 2) pa_nil))))
        (pss_one (ps_for PassesOwn.never rfl (pi_range1 (by rfl) TX.b_range (pa_cons pe_int pa_nil)) (pg_name (i := 4) sc_law.nd rfl (.inl rfl))
          (pss_cons (ps_asg (pe_call (ok_L_s5_of TX) (hr.mono (by decide)) (by rfl) TX.g_L_s5_of TX.f_L_s5_of.kp TX.bd_L_s5_of .nil pass0 (pa_cons (pv 3) (pa_cons (pv 1) pa_nil))) (pg_tup rfl (pgs_cons (pg_name (i := 5) sc_law.nd rfl (.inl rfl)) (pgs_cons (pg_name (i := 6) sc_law.nd rfl (.inl rfl)) pgs_nil))))
          (pss_one (ps_if (pt_not (pt_val (pe_call (ok_L_s5_right TX) (hr.mono (by decide)) (by rfl) TX.g_L_s5_right TX.f_L_s5_right.kp TX.bd_L_s5_right .nil pass0 (pa_cons (pv 5) (pa_cons (pv 6) pa_nil)))))
            (pss_one (ps_ret pe_bl))
            pss_nil)))))))
      (pss_one (ps_ret pe_bl)))), ?_⟩
    refine ⟨sz60 (by simp), fun t1 n1 => ⟨sz60 (by simp), fun t2 n2 => ⟨sz60 (by simp), fun t3 n3 => ⟨sz60 (by simp), fun t4 n4 => ⟨sz60 (by simp), fun t5 n5 => ⟨sz60 (by simp), fun t6 n6 => ⟨sz60 (by simp), fun t7 n7 => ⟨sz60 (by simp), fun t8 n8 => ⟨sz60 (by simp), fun t9 n9 => ⟨sz60 (by simp), fun t10 n10 => ⟨sz60 (by simp), fun t11 n11 => ⟨sz60 (by simp), fun l nl => ?_⟩⟩⟩⟩⟩⟩⟩⟩⟩⟩⟩⟩
    have u1 := same_upd (o := .tup [V.int 1, V.int 19]) n1
    have u2 := same_upd (o := .tup [V.int 19, V.int 1]) n2
    have u3 := same_upd (o := .tup [V.int 2, V.int 3]) n3
    have u4 := same_upd (o := .tup [V.int 3, V.int 2]) n4
    have u5 := same_upd (o := .tup [V.int 2, V.int 4]) n5
    have u6 := same_upd (o := .tup [V.int 4, V.int 2]) n6
    have u7 := same_upd (o := .tup [V.int 3, V.int 3]) n7
    have u8 := same_upd (o := .tup [V.int 0, V.int 7]) n8
    have u9 := same_upd (o := .tup [V.int 7, V.int 0]) n9
    have u10 := same_upd (o := .tup [V.int 2, V.int 2]) n10
    have u11 := same_upd (o := .tup [V.int 1, V.int 1]) n11
    have u12 := same_upd (o := .lst [V.ref t1, V.ref t2, V.ref t3, V.ref t4, V.ref t5, V.ref t6, V.ref t7, V.ref t8, V.ref t9, V.ref t10, V.ref t11]) nl
    have v11 := u11.trans u12
    have v10 := u10.trans v11
    have v9 := u9.trans v10
    have v8 := u8.trans v9
    have v7 := u7.trans v8
    have v6 := u6.trans v7
    have v5 := u5.trans v6
    have v4 := u4.trans v5
    have v3 := u3.trans v4
    have v2 := u2.trans v3
    have v1 := u1.trans v2
    have w1 := v2 _ _ (upd_same (H := H) (a := t1) (o := .tup [V.int 1, V.int 19]))
    have w2 := v3 _ _ (upd_same (a := t2) (o := .tup [V.int 19, V.int 1]))
    have w3 := v4 _ _ (upd_same (a := t3) (o := .tup [V.int 2, V.int 3]))
    have w4 := v5 _ _ (upd_same (a := t4) (o := .tup [V.int 3, V.int 2]))
    have w5 := v6 _ _ (upd_same (a := t5) (o := .tup [V.int 2, V.int 4]))
    have w6 := v7 _ _ (upd_same (a := t6) (o := .tup [V.int 4, V.int 2]))
    have w7 := v8 _ _ (upd_same (a := t7) (o := .tup [V.int 3, V.int 3]))
    have w8 := v9 _ _ (upd_same (a := t8) (o := .tup [V.int 0, V.int 7]))
    have w9 := v10 _ _ (upd_same (a := t9) (o := .tup [V.int 7, V.int 0]))
    have w10 := v11 _ _ (upd_same (a := t10) (o := .tup [V.int 2, V.int 2]))
    have w11 := u12 _ _ (upd_same (a := t11) (o := .tup [V.int 1, V.int 1]))
    have hL := upd_same (H := (upd (upd (upd (upd (upd (upd (upd (upd (upd (upd (upd H t1 (.tup [V.int 1, V.int 19])) t2 (.tup [V.int 19, V.int 1])) t3 (.tup [V.int 2, V.int 3])) t4 (.tup [V.int 3, V.int 2])) t5 (.tup [V.int 2, V.int 4])) t6 (.tup [V.int 4, V.int 2])) t7 (.tup [V.int 3, V.int 3])) t8 (.tup [V.int 0, V.int 7])) t9 (.tup [V.int 7, V.int 0])) t10 (.tup [V.int 2, V.int 2])) t11 (.tup [V.int 1, V.int 1]))) (a := l) (o := .lst [V.ref t1, V.ref t2, V.ref t3, V.ref t4, V.ref t5, V.ref t6, V.ref t7, V.ref t8, V.ref t9, V.ref t10, V.ref t11])
    obtain ⟨G, hG⟩ : ∃ G : Hp, G = upd (upd (upd (upd (upd (upd (upd (upd (upd (upd (upd (upd H t1 (.tup [V.int 1, V.int 19])) t2 (.tup [V.int 19, V.int 1])) t3 (.tup [V.int 2, V.int 3])) t4 (.tup [V.int 3, V.int 2])) t5 (.tup [V.int 2, V.int 4])) t6 (.tup [V.int 4, V.int 2])) t7 (.tup [V.int 3, V.int 3])) t8 (.tup [V.int 0, V.int 7])) t9 (.tup [V.int 7, V.int 0])) t10 (.tup [V.int 2, V.int 2])) t11 (.tup [V.int 1, V.int 1])) l (.lst [V.ref t1, V.ref t2, V.ref t3, V.ref t4, V.ref t5, V.ref t6, V.ref t7, V.ref t8, V.ref t9, V.ref t10, V.ref t11]) := ⟨_, rfl⟩
    rw [← hG]
    rw [← hG] at hL
    have sG : Same H G := by rw [hG]; exact v1
    have hP : ∃ vs : List V, G l = some (.lst vs) ∧ vs.length = 11 ∧ ∀ v, v ∈ vs → ∃ (t : Addr) (k c : Nat), v = .ref t ∧ SqT K G t [.int (k : Int), .int (c : Int)] ∧ (k, c) ∈ pairsK ∧ k ≤ 60 ∧ c ≤ 60 := by
      refine ⟨_, hL, rfl, fun v hv => ?_⟩
      simp only [List.mem_cons, List.not_mem_nil, or_false] at hv
      rw [hG]
      rcases hv with h | h | h | h | h | h | h | h | h | h | h
      · exact ⟨t1, 1, 19, h, .inl (.inl w1), by decide, by decide, by decide⟩
      · exact ⟨t2, 19, 1, h, .inl (.inl w2), by decide, by decide, by decide⟩
      · exact ⟨t3, 2, 3, h, .inl (.inl w3), by decide, by decide, by decide⟩
      · exact ⟨t4, 3, 2, h, .inl (.inl w4), by decide, by decide, by decide⟩
      · exact ⟨t5, 2, 4, h, .inl (.inl w5), by decide, by decide, by decide⟩
      · exact ⟨t6, 4, 2, h, .inl (.inl w6), by decide, by decide, by decide⟩
      · exact ⟨t7, 3, 3, h, .inl (.inl w7), by decide, by decide, by decide⟩
      · exact ⟨t8, 0, 7, h, .inl (.inl w8), by decide, by decide, by decide⟩
      · exact ⟨t9, 7, 0, h, .inl (.inl w9), by decide, by decide, by decide⟩
      · exact ⟨t10, 2, 2, h, .inl (.inl w10), by decide, by decide, by decide⟩
      · exact ⟨t11, 1, 1, h, .inl (.inl w11), by decide, by decide, by decide⟩
    clear hL hG w1 v1 w2 v2 w3 v3 w4 v4 w5 v5 w6 v6 w7 v7 w8 v8 w9 v9 w10 v10 w11 v11 u1 u2 u3 u4 u5 u6 u7 u8 u9 u10 u11 u12
    obtain ⟨pv, hl, hvl, hvs⟩ := hP
    refine ⟨.ref a, rfl, a, _, rfl, .inl (sG.seq hS), _, _, rfl, _, _, rfl, _, rfl, ?_, ?_, ?_⟩
    · split <;> split <;> omega
    · split <;> split <;> omega
    refine for_range (lo := 0) (fun i σ H2 => ∃ y2 y3 y4 y5 y6, σ = [some (.ref a), some (.ref l), y2, y3, y4, y5, y6] ∧ Same G H2) ⟨_, _, _, _, _, rfl, Same.refl _⟩ ?_ (fun σ H' _ => q H')
    rintro i σ H1 hi ⟨y2, y3, y4, y5, y6, rfl, s1⟩
    have hi2 : i ≤ 62 := nth2 _ rfl i hi
    have ei : (0 : Int) + (i : Nat) = (i : Int) := by omega
    rw [ei]
    refine ⟨.ref a, rfl, _, rfl, a, ns, i, rfl, (sG.trans s1).seq hS, hi2, fun H2 p s2 np pp => ?_⟩
    have s12 := s1.trans s2
    have npG : G p = none := s1.free np
    refine ⟨_, rfl, by decide, by decide, for_range (lo := 0) (n := (2 : Int).toNat) (fun j σ H3 => ∃ y4 y5 y6, σ = [some (.ref a), some (.ref l), some (.int (i : Int)), some (.ref p), y4, y5, y6] ∧ Same G H3 ∧ Pot H3 p (10 * (j : Int))) ⟨_, _, _, rfl, s12, by simpa using pp⟩ ?_ ?_⟩
    · rintro j σ H3 hj ⟨y4, y5, y6, rfl, s3, p3⟩
      have hj' : j < 2 := hj
      refine ⟨.ref p, rfl, .ref l, rfl, p, l, pv, _, rfl, p3, by omega, .inl (.inl (s3 _ _ hl)), fun e => ?_, fun e => ?_, by omega, fun H5 v b5 p5 hv => ?_⟩
      · rw [e, npG] at hl; cases hl
      · rw [e] at hvl; cases hvl
      have b35 : Same G H5 := But.same s3 b5 npG
      obtain ⟨t, k, c, rfl, ht, hm, hk, hc⟩ := hvs v hv
      obtain ⟨f, pl, O⟩ := kOk hm
      refine ⟨t, _, rfl, Same.tup b35 ht, rfl, _, _, rfl, _, _, rfl, rfl, ?_⟩
      refine ⟨_, rfl, _, rfl, k, c, f, pl, rfl, hk, hc, O, fun H6 s6 => ⟨true, rfl, iteF ?_⟩⟩
      exact ⟨_, _, _, rfl, b35.trans s6, (p5.same s6).mono (by omega)⟩
    · rintro σ H3 ⟨y4, y5, y6, rfl, s3, p3⟩
      exact ⟨_, _, _, _, _, rfl, s3⟩
end
theorem all_mk {l : PySem.W.OpenLaw} {w : World} {K : PySem.W.Frag} {h : Heap} {mg : Str → Option Value} {fa : Addr} (X : K.In h) (G : h.Ns mainGlobals mg) (hfa : mg "law" = some (.ref fa))
    {f_is_int : Addr} {od_is_int an_is_int : Option Addr} {sl_is_int : Array (Option Value)} {oc_is_int kV_is_int dc_is_int pm_is_int cd_is_int ct_is_int : Value}
    (a_is_int : PySem.W.nsIn K mainGlobals "is_int" = some (some (.ref f_is_int))) (l_is_int : K.lookup f_is_int = some ⟨oc_is_int, od_is_int, .func (PySem.W.fnOf "is_int" "is_int" (defArgs s_is_int) (defBody s_is_int) (defScope s_is_int) .none kV_is_int dc_is_int pm_is_int an_is_int cd_is_int ct_is_int), sl_is_int⟩) (c_is_int : PySem.W.codeIn K cd_is_int "is_int" = true) (k_is_int : PySem.W.keepIn K (.ref f_is_int) = true)
    {f_is_count : Addr} {od_is_count an_is_count : Option Addr} {sl_is_count : Array (Option Value)} {oc_is_count kV_is_count dc_is_count pm_is_count cd_is_count ct_is_count : Value}
    (a_is_count : PySem.W.nsIn K mainGlobals "is_count" = some (some (.ref f_is_count))) (l_is_count : K.lookup f_is_count = some ⟨oc_is_count, od_is_count, .func (PySem.W.fnOf "is_count" "is_count" (defArgs s_is_count) (defBody s_is_count) (defScope s_is_count) .none kV_is_count dc_is_count pm_is_count an_is_count cd_is_count ct_is_count), sl_is_count⟩) (c_is_count : PySem.W.codeIn K cd_is_count "is_count" = true) (k_is_count : PySem.W.keepIn K (.ref f_is_count) = true)
    {f_is_count_up_to : Addr} {od_is_count_up_to an_is_count_up_to : Option Addr} {sl_is_count_up_to : Array (Option Value)} {oc_is_count_up_to kV_is_count_up_to dc_is_count_up_to pm_is_count_up_to cd_is_count_up_to ct_is_count_up_to : Value}
    (a_is_count_up_to : PySem.W.nsIn K mainGlobals "is_count_up_to" = some (some (.ref f_is_count_up_to))) (l_is_count_up_to : K.lookup f_is_count_up_to = some ⟨oc_is_count_up_to, od_is_count_up_to, .func (PySem.W.fnOf "is_count_up_to" "is_count_up_to" (defArgs s_is_count_up_to) (defBody s_is_count_up_to) (defScope s_is_count_up_to) .none kV_is_count_up_to dc_is_count_up_to pm_is_count_up_to an_is_count_up_to cd_is_count_up_to ct_is_count_up_to), sl_is_count_up_to⟩) (c_is_count_up_to : PySem.W.codeIn K cd_is_count_up_to "is_count_up_to" = true) (k_is_count_up_to : PySem.W.keepIn K (.ref f_is_count_up_to) = true)
    {f_check_budgets : Addr} {od_check_budgets an_check_budgets : Option Addr} {sl_check_budgets : Array (Option Value)} {oc_check_budgets kV_check_budgets dc_check_budgets pm_check_budgets cd_check_budgets ct_check_budgets : Value}
    (a_check_budgets : PySem.W.nsIn K mainGlobals "check_budgets" = some (some (.ref f_check_budgets))) (l_check_budgets : K.lookup f_check_budgets = some ⟨oc_check_budgets, od_check_budgets, .func (PySem.W.fnOf "check_budgets" "check_budgets" (defArgs s_check_budgets) (defBody s_check_budgets) (defScope s_check_budgets) .none kV_check_budgets dc_check_budgets pm_check_budgets an_check_budgets cd_check_budgets ct_check_budgets), sl_check_budgets⟩) (c_check_budgets : PySem.W.codeIn K cd_check_budgets "check_budgets" = true) (k_check_budgets : PySem.W.keepIn K (.ref f_check_budgets) = true)
    {f_is_state : Addr} {od_is_state an_is_state : Option Addr} {sl_is_state : Array (Option Value)} {oc_is_state kV_is_state dc_is_state pm_is_state cd_is_state ct_is_state : Value}
    (a_is_state : PySem.W.nsIn K mainGlobals "is_state" = some (some (.ref f_is_state))) (l_is_state : K.lookup f_is_state = some ⟨oc_is_state, od_is_state, .func (PySem.W.fnOf "is_state" "is_state" (defArgs s_is_state) (defBody s_is_state) (defScope s_is_state) .none kV_is_state dc_is_state pm_is_state an_is_state cd_is_state ct_is_state), sl_is_state⟩) (c_is_state : PySem.W.codeIn K cd_is_state "is_state" = true) (k_is_state : PySem.W.keepIn K (.ref f_is_state) = true)
    {f_check_state : Addr} {od_check_state an_check_state : Option Addr} {sl_check_state : Array (Option Value)} {oc_check_state kV_check_state dc_check_state pm_check_state cd_check_state ct_check_state : Value}
    (a_check_state : PySem.W.nsIn K mainGlobals "check_state" = some (some (.ref f_check_state))) (l_check_state : K.lookup f_check_state = some ⟨oc_check_state, od_check_state, .func (PySem.W.fnOf "check_state" "check_state" (defArgs s_check_state) (defBody s_check_state) (defScope s_check_state) .none kV_check_state dc_check_state pm_check_state an_check_state cd_check_state ct_check_state), sl_check_state⟩) (c_check_state : PySem.W.codeIn K cd_check_state "check_state" = true) (k_check_state : PySem.W.keepIn K (.ref f_check_state) = true)
    {f_lifetime : Addr} {od_lifetime an_lifetime : Option Addr} {sl_lifetime : Array (Option Value)} {oc_lifetime kV_lifetime dc_lifetime pm_lifetime cd_lifetime ct_lifetime : Value}
    (a_lifetime : PySem.W.nsIn K mainGlobals "lifetime" = some (some (.ref f_lifetime))) (l_lifetime : K.lookup f_lifetime = some ⟨oc_lifetime, od_lifetime, .func (PySem.W.fnOf "lifetime" "lifetime" (defArgs s_lifetime) (defBody s_lifetime) (defScope s_lifetime) .none kV_lifetime dc_lifetime pm_lifetime an_lifetime cd_lifetime ct_lifetime), sl_lifetime⟩) (c_lifetime : PySem.W.codeIn K cd_lifetime "lifetime" = true) (k_lifetime : PySem.W.keepIn K (.ref f_lifetime) = true)
    {f_choose : Addr} {od_choose an_choose : Option Addr} {sl_choose : Array (Option Value)} {oc_choose kV_choose dc_choose pm_choose cd_choose ct_choose : Value}
    (a_choose : PySem.W.nsIn K mainGlobals "choose" = some (some (.ref f_choose))) (l_choose : K.lookup f_choose = some ⟨oc_choose, od_choose, .func (PySem.W.fnOf "choose" "choose" (defArgs s_choose) (defBody s_choose) (defScope s_choose) .none kV_choose dc_choose pm_choose an_choose cd_choose ct_choose), sl_choose⟩) (c_choose : PySem.W.codeIn K cd_choose "choose" = true) (k_choose : PySem.W.keepIn K (.ref f_choose) = true)
    {f_remaining : Addr} {od_remaining an_remaining : Option Addr} {sl_remaining : Array (Option Value)} {oc_remaining kV_remaining dc_remaining pm_remaining cd_remaining ct_remaining : Value}
    (a_remaining : PySem.W.nsIn K mainGlobals "remaining" = some (some (.ref f_remaining))) (l_remaining : K.lookup f_remaining = some ⟨oc_remaining, od_remaining, .func (PySem.W.fnOf "remaining" "remaining" (defArgs s_remaining) (defBody s_remaining) (defScope s_remaining) .none kV_remaining dc_remaining pm_remaining an_remaining cd_remaining ct_remaining), sl_remaining⟩) (c_remaining : PySem.W.codeIn K cd_remaining "remaining" = true) (k_remaining : PySem.W.keepIn K (.ref f_remaining) = true)
    {f_best_merge : Addr} {od_best_merge an_best_merge : Option Addr} {sl_best_merge : Array (Option Value)} {oc_best_merge kV_best_merge dc_best_merge pm_best_merge cd_best_merge ct_best_merge : Value}
    (a_best_merge : PySem.W.nsIn K mainGlobals "best_merge" = some (some (.ref f_best_merge))) (l_best_merge : K.lookup f_best_merge = some ⟨oc_best_merge, od_best_merge, .func (PySem.W.fnOf "best_merge" "best_merge" (defArgs s_best_merge) (defBody s_best_merge) (defScope s_best_merge) .none kV_best_merge dc_best_merge pm_best_merge an_best_merge cd_best_merge ct_best_merge), sl_best_merge⟩) (c_best_merge : PySem.W.codeIn K cd_best_merge "best_merge" = true) (k_best_merge : PySem.W.keepIn K (.ref f_best_merge) = true)
    {f_L_s5_hand : Addr} {od_L_s5_hand an_L_s5_hand : Option Addr} {sl_L_s5_hand : Array (Option Value)} {oc_L_s5_hand kV_L_s5_hand dc_L_s5_hand pm_L_s5_hand cd_L_s5_hand ct_L_s5_hand : Value}
    (a_L_s5_hand : PySem.W.nsIn K mainGlobals "_law_s5_hand" = some (some (.ref f_L_s5_hand))) (l_L_s5_hand : K.lookup f_L_s5_hand = some ⟨oc_L_s5_hand, od_L_s5_hand, .func (PySem.W.fnOf "_law_s5_hand" "_law_s5_hand" (defArgs s_L_s5_hand) (defBody s_L_s5_hand) (defScope s_L_s5_hand) .none kV_L_s5_hand dc_L_s5_hand pm_L_s5_hand an_L_s5_hand cd_L_s5_hand ct_L_s5_hand), sl_L_s5_hand⟩) (c_L_s5_hand : PySem.W.codeIn K cd_L_s5_hand "_law_s5_hand" = true) (k_L_s5_hand : PySem.W.keepIn K (.ref f_L_s5_hand) = true)
    {f_L_s5_take : Addr} {od_L_s5_take an_L_s5_take : Option Addr} {sl_L_s5_take : Array (Option Value)} {oc_L_s5_take kV_L_s5_take dc_L_s5_take pm_L_s5_take cd_L_s5_take ct_L_s5_take : Value}
    (a_L_s5_take : PySem.W.nsIn K mainGlobals "_law_s5_take" = some (some (.ref f_L_s5_take))) (l_L_s5_take : K.lookup f_L_s5_take = some ⟨oc_L_s5_take, od_L_s5_take, .func (PySem.W.fnOf "_law_s5_take" "_law_s5_take" (defArgs s_L_s5_take) (defBody s_L_s5_take) (defScope s_L_s5_take) .none kV_L_s5_take dc_L_s5_take pm_L_s5_take an_L_s5_take cd_L_s5_take ct_L_s5_take), sl_L_s5_take⟩) (c_L_s5_take : PySem.W.codeIn K cd_L_s5_take "_law_s5_take" = true) (k_L_s5_take : PySem.W.keepIn K (.ref f_L_s5_take) = true)
    {f_L_s5_of : Addr} {od_L_s5_of an_L_s5_of : Option Addr} {sl_L_s5_of : Array (Option Value)} {oc_L_s5_of kV_L_s5_of dc_L_s5_of pm_L_s5_of cd_L_s5_of ct_L_s5_of : Value}
    (a_L_s5_of : PySem.W.nsIn K mainGlobals "_law_s5_of" = some (some (.ref f_L_s5_of))) (l_L_s5_of : K.lookup f_L_s5_of = some ⟨oc_L_s5_of, od_L_s5_of, .func (PySem.W.fnOf "_law_s5_of" "_law_s5_of" (defArgs s_L_s5_of) (defBody s_L_s5_of) (defScope s_L_s5_of) .none kV_L_s5_of dc_L_s5_of pm_L_s5_of an_L_s5_of cd_L_s5_of ct_L_s5_of), sl_L_s5_of⟩) (c_L_s5_of : PySem.W.codeIn K cd_L_s5_of "_law_s5_of" = true) (k_L_s5_of : PySem.W.keepIn K (.ref f_L_s5_of) = true)
    {f_L_s5_after : Addr} {od_L_s5_after an_L_s5_after : Option Addr} {sl_L_s5_after : Array (Option Value)} {oc_L_s5_after kV_L_s5_after dc_L_s5_after pm_L_s5_after cd_L_s5_after ct_L_s5_after : Value}
    (a_L_s5_after : PySem.W.nsIn K mainGlobals "_law_s5_after" = some (some (.ref f_L_s5_after))) (l_L_s5_after : K.lookup f_L_s5_after = some ⟨oc_L_s5_after, od_L_s5_after, .func (PySem.W.fnOf "_law_s5_after" "_law_s5_after" (defArgs s_L_s5_after) (defBody s_L_s5_after) (defScope s_L_s5_after) .none kV_L_s5_after dc_L_s5_after pm_L_s5_after an_L_s5_after cd_L_s5_after ct_L_s5_after), sl_L_s5_after⟩) (c_L_s5_after : PySem.W.codeIn K cd_L_s5_after "_law_s5_after" = true) (k_L_s5_after : PySem.W.keepIn K (.ref f_L_s5_after) = true)
    {f_L_s5_fits : Addr} {od_L_s5_fits an_L_s5_fits : Option Addr} {sl_L_s5_fits : Array (Option Value)} {oc_L_s5_fits kV_L_s5_fits dc_L_s5_fits pm_L_s5_fits cd_L_s5_fits ct_L_s5_fits : Value}
    (a_L_s5_fits : PySem.W.nsIn K mainGlobals "_law_s5_fits" = some (some (.ref f_L_s5_fits))) (l_L_s5_fits : K.lookup f_L_s5_fits = some ⟨oc_L_s5_fits, od_L_s5_fits, .func (PySem.W.fnOf "_law_s5_fits" "_law_s5_fits" (defArgs s_L_s5_fits) (defBody s_L_s5_fits) (defScope s_L_s5_fits) .none kV_L_s5_fits dc_L_s5_fits pm_L_s5_fits an_L_s5_fits cd_L_s5_fits ct_L_s5_fits), sl_L_s5_fits⟩) (c_L_s5_fits : PySem.W.codeIn K cd_L_s5_fits "_law_s5_fits" = true) (k_L_s5_fits : PySem.W.keepIn K (.ref f_L_s5_fits) = true)
    {f_L_s5_next : Addr} {od_L_s5_next an_L_s5_next : Option Addr} {sl_L_s5_next : Array (Option Value)} {oc_L_s5_next kV_L_s5_next dc_L_s5_next pm_L_s5_next cd_L_s5_next ct_L_s5_next : Value}
    (a_L_s5_next : PySem.W.nsIn K mainGlobals "_law_s5_next" = some (some (.ref f_L_s5_next))) (l_L_s5_next : K.lookup f_L_s5_next = some ⟨oc_L_s5_next, od_L_s5_next, .func (PySem.W.fnOf "_law_s5_next" "_law_s5_next" (defArgs s_L_s5_next) (defBody s_L_s5_next) (defScope s_L_s5_next) .none kV_L_s5_next dc_L_s5_next pm_L_s5_next an_L_s5_next cd_L_s5_next ct_L_s5_next), sl_L_s5_next⟩) (c_L_s5_next : PySem.W.codeIn K cd_L_s5_next "_law_s5_next" = true) (k_L_s5_next : PySem.W.keepIn K (.ref f_L_s5_next) = true)
    {f_L_s5_profile : Addr} {od_L_s5_profile an_L_s5_profile : Option Addr} {sl_L_s5_profile : Array (Option Value)} {oc_L_s5_profile kV_L_s5_profile dc_L_s5_profile pm_L_s5_profile cd_L_s5_profile ct_L_s5_profile : Value}
    (a_L_s5_profile : PySem.W.nsIn K mainGlobals "_law_s5_profile" = some (some (.ref f_L_s5_profile))) (l_L_s5_profile : K.lookup f_L_s5_profile = some ⟨oc_L_s5_profile, od_L_s5_profile, .func (PySem.W.fnOf "_law_s5_profile" "_law_s5_profile" (defArgs s_L_s5_profile) (defBody s_L_s5_profile) (defScope s_L_s5_profile) .none kV_L_s5_profile dc_L_s5_profile pm_L_s5_profile an_L_s5_profile cd_L_s5_profile ct_L_s5_profile), sl_L_s5_profile⟩) (c_L_s5_profile : PySem.W.codeIn K cd_L_s5_profile "_law_s5_profile" = true) (k_L_s5_profile : PySem.W.keepIn K (.ref f_L_s5_profile) = true)
    {f_L_s5_level : Addr} {od_L_s5_level an_L_s5_level : Option Addr} {sl_L_s5_level : Array (Option Value)} {oc_L_s5_level kV_L_s5_level dc_L_s5_level pm_L_s5_level cd_L_s5_level ct_L_s5_level : Value}
    (a_L_s5_level : PySem.W.nsIn K mainGlobals "_law_s5_level" = some (some (.ref f_L_s5_level))) (l_L_s5_level : K.lookup f_L_s5_level = some ⟨oc_L_s5_level, od_L_s5_level, .func (PySem.W.fnOf "_law_s5_level" "_law_s5_level" (defArgs s_L_s5_level) (defBody s_L_s5_level) (defScope s_L_s5_level) .none kV_L_s5_level dc_L_s5_level pm_L_s5_level an_L_s5_level cd_L_s5_level ct_L_s5_level), sl_L_s5_level⟩) (c_L_s5_level : PySem.W.codeIn K cd_L_s5_level "_law_s5_level" = true) (k_L_s5_level : PySem.W.keepIn K (.ref f_L_s5_level) = true)
    {f_L_s5_followed : Addr} {od_L_s5_followed an_L_s5_followed : Option Addr} {sl_L_s5_followed : Array (Option Value)} {oc_L_s5_followed kV_L_s5_followed dc_L_s5_followed pm_L_s5_followed cd_L_s5_followed ct_L_s5_followed : Value}
    (a_L_s5_followed : PySem.W.nsIn K mainGlobals "_law_s5_followed" = some (some (.ref f_L_s5_followed))) (l_L_s5_followed : K.lookup f_L_s5_followed = some ⟨oc_L_s5_followed, od_L_s5_followed, .func (PySem.W.fnOf "_law_s5_followed" "_law_s5_followed" (defArgs s_L_s5_followed) (defBody s_L_s5_followed) (defScope s_L_s5_followed) .none kV_L_s5_followed dc_L_s5_followed pm_L_s5_followed an_L_s5_followed cd_L_s5_followed ct_L_s5_followed), sl_L_s5_followed⟩) (c_L_s5_followed : PySem.W.codeIn K cd_L_s5_followed "_law_s5_followed" = true) (k_L_s5_followed : PySem.W.keepIn K (.ref f_L_s5_followed) = true)
    {f_L_s5_right : Addr} {od_L_s5_right an_L_s5_right : Option Addr} {sl_L_s5_right : Array (Option Value)} {oc_L_s5_right kV_L_s5_right dc_L_s5_right pm_L_s5_right cd_L_s5_right ct_L_s5_right : Value}
    (a_L_s5_right : PySem.W.nsIn K mainGlobals "_law_s5_right" = some (some (.ref f_L_s5_right))) (l_L_s5_right : K.lookup f_L_s5_right = some ⟨oc_L_s5_right, od_L_s5_right, .func (PySem.W.fnOf "_law_s5_right" "_law_s5_right" (defArgs s_L_s5_right) (defBody s_L_s5_right) (defScope s_L_s5_right) .none kV_L_s5_right dc_L_s5_right pm_L_s5_right an_L_s5_right cd_L_s5_right ct_L_s5_right), sl_L_s5_right⟩) (c_L_s5_right : PySem.W.codeIn K cd_L_s5_right "_law_s5_right" = true) (k_L_s5_right : PySem.W.keepIn K (.ref f_L_s5_right) = true)
    {f_law : Addr} {od_law an_law : Option Addr} {sl_law : Array (Option Value)} {oc_law kV_law dc_law pm_law cd_law ct_law : Value}
    (a_law : PySem.W.nsIn K mainGlobals "law" = some (some (.ref f_law))) (l_law : K.lookup f_law = some ⟨oc_law, od_law, .func (PySem.W.fnOf "law" "law" (defArgs s_law) (defBody s_law) (defScope s_law) .none kV_law dc_law pm_law an_law cd_law ct_law), sl_law⟩) (c_law : PySem.W.codeIn K cd_law "law" = true) (k_law : PySem.W.keepIn K (.ref f_law) = true)
    (z_isinstance : PySem.W.nsIn K mainGlobals "isinstance" = some none)
    (z_int : PySem.W.nsIn K mainGlobals "int" = some none)
    (z_bool : PySem.W.nsIn K mainGlobals "bool" = some none)
    (z_all : PySem.W.nsIn K mainGlobals "all" = some none)
    (z_tuple : PySem.W.nsIn K mainGlobals "tuple" = some none)
    (z_len : PySem.W.nsIn K mainGlobals "len" = some none)
    (z_range : PySem.W.nsIn K mainGlobals "range" = some none)
    (z_min : PySem.W.nsIn K mainGlobals "min" = some none)
    (z_max : PySem.W.nsIn K mainGlobals "max" = some none)
    (z_abs : PySem.W.nsIn K mainGlobals "abs" = some none)
    (z_enumerate : PySem.W.nsIn K mainGlobals "enumerate" = some none)
    (z_sorted : PySem.W.nsIn K mainGlobals "sorted" = some none)
    (z_set : PySem.W.nsIn K mainGlobals "set" = some none)
    {t_MOST_BUDGET : Tok} (y_MOST_BUDGET : PySem.W.nsIn K mainGlobals "MOST_BUDGET" = some (some (.int (60) t_MOST_BUDGET)))
    : ∃ fd : FuncData, (∀ (s : Shared) (v : Value), BindsTo s fd ⟨[v], []⟩ [("_law_script", v)]) ∧ ∀ base : Heap, K.In base → base.Ns mainGlobals mg → FnOk l.prog w K mg base CX0 10 fa fd ["_law_script"] (sp_law K) := by
  have e := hfa.symm.trans (PySem.W.mg_of X G a_law)
  cases e
  have F_is_int := fun_mk (st := s_is_int) l_is_int c_is_int k_is_int
  have B_is_int := F_is_int.binds (ps := ["value"]) fun _ _ _ _ _ _ us hl => match us, hl with | [_], _ => rfl
  have F_is_count := fun_mk (st := s_is_count) l_is_count c_is_count k_is_count
  have B_is_count := F_is_count.binds (ps := ["value"]) fun _ _ _ _ _ _ us hl => match us, hl with | [_], _ => rfl
  have F_is_count_up_to := fun_mk (st := s_is_count_up_to) l_is_count_up_to c_is_count_up_to k_is_count_up_to
  have B_is_count_up_to := F_is_count_up_to.binds (ps := ["value", "most"]) fun _ _ _ _ _ _ us hl => match us, hl with | [_, _], _ => rfl
  have F_check_budgets := fun_mk (st := s_check_budgets) l_check_budgets c_check_budgets k_check_budgets
  have B_check_budgets := F_check_budgets.binds (ps := ["k", "c", "most"]) fun _ _ _ _ _ _ us hl => match us, hl with | [_, _, _], _ => rfl
  have F_is_state := fun_mk (st := s_is_state) l_is_state c_is_state k_is_state
  have B_is_state := F_is_state.binds (ps := ["value", "k", "c"]) fun _ _ _ _ _ _ us hl => match us, hl with | [_, _, _], _ => rfl
  have F_check_state := fun_mk (st := s_check_state) l_check_state c_check_state k_check_state
  have B_check_state := F_check_state.binds (ps := ["state", "k", "c"]) fun _ _ _ _ _ _ us hl => match us, hl with | [_, _, _], _ => rfl
  have F_lifetime := fun_mk (st := s_lifetime) l_lifetime c_lifetime k_lifetime
  have B_lifetime := F_lifetime.binds (ps := ["k", "c"]) fun _ _ _ _ _ _ us hl => match us, hl with | [_, _], _ => rfl
  have F_choose := fun_mk (st := s_choose) l_choose c_choose k_choose
  have B_choose := F_choose.binds (ps := ["n", "k"]) fun _ _ _ _ _ _ us hl => match us, hl with | [_, _], _ => rfl
  have F_remaining := fun_mk (st := s_remaining) l_remaining c_remaining k_remaining
  have B_remaining := F_remaining.binds (ps := ["state", "k", "c"]) fun _ _ _ _ _ _ us hl => match us, hl with | [_, _, _], _ => rfl
  have F_best_merge := fun_mk (st := s_best_merge) l_best_merge c_best_merge k_best_merge
  have B_best_merge := F_best_merge.binds (ps := ["state", "k", "c"]) fun _ _ _ _ _ _ us hl => match us, hl with | [_, _, _], _ => rfl
  have F_L_s5_hand := fun_mk (st := s_L_s5_hand) l_L_s5_hand c_L_s5_hand k_L_s5_hand
  have B_L_s5_hand := F_L_s5_hand.binds (ps := ["_law_script", "_law_nth"]) fun _ _ _ _ _ _ us hl => match us, hl with | [_, _], _ => rfl
  have F_L_s5_take := fun_mk (st := s_L_s5_take) l_L_s5_take c_L_s5_take k_L_s5_take
  have B_L_s5_take := F_L_s5_take.binds (ps := ["_law_hand", "_law_size"]) fun _ _ _ _ _ _ us hl => match us, hl with | [_, _], _ => rfl
  have F_L_s5_of := fun_mk (st := s_L_s5_of) l_L_s5_of c_L_s5_of k_L_s5_of
  have B_L_s5_of := F_L_s5_of.binds (ps := ["_law_hand", "_law_options"]) fun _ _ _ _ _ _ us hl => match us, hl with | [_, _], _ => rfl
  have F_L_s5_after := fun_mk (st := s_L_s5_after) l_L_s5_after c_L_s5_after k_L_s5_after
  have B_L_s5_after := F_L_s5_after.binds (ps := ["_law_levels", "_law_taken"]) fun _ _ _ _ _ _ us hl => match us, hl with | [_, _], _ => rfl
  have F_L_s5_fits := fun_mk (st := s_L_s5_fits) l_L_s5_fits c_L_s5_fits k_L_s5_fits
  have B_L_s5_fits := F_L_s5_fits.binds (ps := ["_law_levels", "_law_room", "_law_wear"]) fun _ _ _ _ _ _ us hl => match us, hl with | [_, _, _], _ => rfl
  have F_L_s5_next := fun_mk (st := s_L_s5_next) l_L_s5_next c_L_s5_next k_L_s5_next
  have B_L_s5_next := F_L_s5_next.binds (ps := ["_law_levels", "_law_room", "_law_wear"]) fun _ _ _ _ _ _ us hl => match us, hl with | [_, _, _], _ => rfl
  have F_L_s5_profile := fun_mk (st := s_L_s5_profile) l_L_s5_profile c_L_s5_profile k_L_s5_profile
  have B_L_s5_profile := F_L_s5_profile.binds (ps := ["_law_plan"]) fun _ _ _ _ _ _ us hl => match us, hl with | [_], _ => rfl
  have F_L_s5_level := fun_mk (st := s_L_s5_level) l_L_s5_level c_L_s5_level k_L_s5_level
  have B_L_s5_level := F_L_s5_level.binds (ps := ["_law_level", "_law_room", "_law_wear"]) fun _ _ _ _ _ _ us hl => match us, hl with | [_, _, _], _ => rfl
  have F_L_s5_followed := fun_mk (st := s_L_s5_followed) l_L_s5_followed c_L_s5_followed k_L_s5_followed
  have B_L_s5_followed := F_L_s5_followed.binds (ps := ["_law_room", "_law_wear"]) fun _ _ _ _ _ _ us hl => match us, hl with | [_, _], _ => rfl
  have F_L_s5_right := fun_mk (st := s_L_s5_right) l_L_s5_right c_L_s5_right k_L_s5_right
  have B_L_s5_right := F_L_s5_right.binds (ps := ["_law_room", "_law_wear"]) fun _ _ _ _ _ _ us hl => match us, hl with | [_, _], _ => rfl
  have F_law := fun_mk (st := s_law) l_law c_law k_law
  have B_law := F_law.binds (ps := ["_law_script"]) fun _ _ _ _ _ _ us hl => match us, hl with | [_], _ => rfl
  let TX : Tx K mg := ⟨_, _, F_is_int, PySem.W.mg_of X G a_is_int, B_is_int, _, _, F_is_count, PySem.W.mg_of X G a_is_count, B_is_count, _, _, F_is_count_up_to, PySem.W.mg_of X G a_is_count_up_to, B_is_count_up_to, _, _, F_check_budgets, PySem.W.mg_of X G a_check_budgets, B_check_budgets, _, _, F_is_state, PySem.W.mg_of X G a_is_state, B_is_state, _, _, F_check_state, PySem.W.mg_of X G a_check_state, B_check_state, _, _, F_lifetime, PySem.W.mg_of X G a_lifetime, B_lifetime, _, _, F_choose, PySem.W.mg_of X G a_choose, B_choose, _, _, F_remaining, PySem.W.mg_of X G a_remaining, B_remaining, _, _, F_best_merge, PySem.W.mg_of X G a_best_merge, B_best_merge, _, _, F_L_s5_hand, PySem.W.mg_of X G a_L_s5_hand, B_L_s5_hand, _, _, F_L_s5_take, PySem.W.mg_of X G a_L_s5_take, B_L_s5_take, _, _, F_L_s5_of, PySem.W.mg_of X G a_L_s5_of, B_L_s5_of, _, _, F_L_s5_after, PySem.W.mg_of X G a_L_s5_after, B_L_s5_after, _, _, F_L_s5_fits, PySem.W.mg_of X G a_L_s5_fits, B_L_s5_fits, _, _, F_L_s5_next, PySem.W.mg_of X G a_L_s5_next, B_L_s5_next, _, _, F_L_s5_profile, PySem.W.mg_of X G a_L_s5_profile, B_L_s5_profile, _, _, F_L_s5_level, PySem.W.mg_of X G a_L_s5_level, B_L_s5_level, _, _, F_L_s5_followed, PySem.W.mg_of X G a_L_s5_followed, B_L_s5_followed, _, _, F_L_s5_right, PySem.W.mg_of X G a_L_s5_right, B_L_s5_right, _, _, F_law, PySem.W.mg_of X G a_law, B_law, PySem.W.mg_none_of X G z_isinstance, PySem.W.mg_none_of X G z_int, PySem.W.mg_none_of X G z_bool, PySem.W.mg_none_of X G z_all, PySem.W.mg_none_of X G z_tuple, PySem.W.mg_none_of X G z_len, PySem.W.mg_none_of X G z_range, PySem.W.mg_none_of X G z_min, PySem.W.mg_none_of X G z_max, PySem.W.mg_none_of X G z_abs, PySem.W.mg_none_of X G z_enumerate, PySem.W.mg_none_of X G z_sorted, PySem.W.mg_none_of X G z_set, _, PySem.W.mg_of X G y_MOST_BUDGET⟩
  exact ⟨TX.fd_law, fun s v => .of_eq rfl, fun base _ _ => ok_law TX⟩
end MB
open PySem PySem.W PyProof.Rows
set_option maxHeartbeats 0 in
theorem PySem.Challenge.cw_mergebudget_k75_whole_lifetimes_are_exac_holds : PySem.Challenge.rw_mergebudget_k75_whole_lifetimes_are_exac.Holds := by
  w_on; o_law; k_head; (case hw => w_witness2)
  k_fill
  refine L2.walk_of (l := PySem.Challenge.rw_mergebudget_k75_whole_lifetimes_are_exac) (n := 63) (k := 10) (x := "_law_script") (CX := fun _ => L2.CX0) (sp := fun w => MB.sp_law _) rfl (by decide) rfl ⟨rfl, by decide, by decide⟩ (fun w h Y => PySem.W.kIn_of Y) ?F (fun _ _ a ns hl _ hS => ⟨a, ns, rfl, hS, hl, fun _ => rfl⟩) (fun _ _ _ _ _ h => h)
  case F =>
    intro w mg fa h KX G hmg
    refine' MB.all_mk KX G hmg ?a_is_int ?l_is_int ?c_is_int ?k_is_int ?a_is_count ?l_is_count ?c_is_count ?k_is_count ?a_is_count_up_to ?l_is_count_up_to ?c_is_count_up_to ?k_is_count_up_to ?a_check_budgets ?l_check_budgets ?c_check_budgets ?k_check_budgets ?a_is_state ?l_is_state ?c_is_state ?k_is_state ?a_check_state ?l_check_state ?c_check_state ?k_check_state ?a_lifetime ?l_lifetime ?c_lifetime ?k_lifetime ?a_choose ?l_choose ?c_choose ?k_choose ?a_remaining ?l_remaining ?c_remaining ?k_remaining ?a_best_merge ?l_best_merge ?c_best_merge ?k_best_merge ?a_L_s5_hand ?l_L_s5_hand ?c_L_s5_hand ?k_L_s5_hand ?a_L_s5_take ?l_L_s5_take ?c_L_s5_take ?k_L_s5_take ?a_L_s5_of ?l_L_s5_of ?c_L_s5_of ?k_L_s5_of ?a_L_s5_after ?l_L_s5_after ?c_L_s5_after ?k_L_s5_after ?a_L_s5_fits ?l_L_s5_fits ?c_L_s5_fits ?k_L_s5_fits ?a_L_s5_next ?l_L_s5_next ?c_L_s5_next ?k_L_s5_next ?a_L_s5_profile ?l_L_s5_profile ?c_L_s5_profile ?k_L_s5_profile ?a_L_s5_level ?l_L_s5_level ?c_L_s5_level ?k_L_s5_level ?a_L_s5_followed ?l_L_s5_followed ?c_L_s5_followed ?k_L_s5_followed ?a_L_s5_right ?l_L_s5_right ?c_L_s5_right ?k_L_s5_right ?a_law ?l_law ?c_law ?k_law ?z_isinstance ?z_int ?z_bool ?z_all ?z_tuple ?z_len ?z_range ?z_min ?z_max ?z_abs ?z_enumerate ?z_sorted ?z_set ?y_MOST_BUDGET
    (case a_is_int => k_is); (case l_is_int => k_is); (case c_is_int => k_is); (case k_is_int => k_is); (case a_is_count => k_is); (case l_is_count => k_is); (case c_is_count => k_is); (case k_is_count => k_is); (case a_is_count_up_to => k_is); (case l_is_count_up_to => k_is); (case c_is_count_up_to => k_is); (case k_is_count_up_to => k_is); (case a_check_budgets => k_is); (case l_check_budgets => k_is); (case c_check_budgets => k_is); (case k_check_budgets => k_is); (case a_is_state => k_is); (case l_is_state => k_is); (case c_is_state => k_is); (case k_is_state => k_is); (case a_check_state => k_is); (case l_check_state => k_is); (case c_check_state => k_is); (case k_check_state => k_is); (case a_lifetime => k_is); (case l_lifetime => k_is); (case c_lifetime => k_is); (case k_lifetime => k_is); (case a_choose => k_is); (case l_choose => k_is); (case c_choose => k_is); (case k_choose => k_is); (case a_remaining => k_is); (case l_remaining => k_is); (case c_remaining => k_is); (case k_remaining => k_is); (case a_best_merge => k_is); (case l_best_merge => k_is); (case c_best_merge => k_is); (case k_best_merge => k_is); (case a_L_s5_hand => k_is); (case l_L_s5_hand => k_is); (case c_L_s5_hand => k_is); (case k_L_s5_hand => k_is); (case a_L_s5_take => k_is); (case l_L_s5_take => k_is); (case c_L_s5_take => k_is); (case k_L_s5_take => k_is); (case a_L_s5_of => k_is); (case l_L_s5_of => k_is); (case c_L_s5_of => k_is); (case k_L_s5_of => k_is); (case a_L_s5_after => k_is); (case l_L_s5_after => k_is); (case c_L_s5_after => k_is); (case k_L_s5_after => k_is); (case a_L_s5_fits => k_is); (case l_L_s5_fits => k_is); (case c_L_s5_fits => k_is); (case k_L_s5_fits => k_is); (case a_L_s5_next => k_is); (case l_L_s5_next => k_is); (case c_L_s5_next => k_is); (case k_L_s5_next => k_is); (case a_L_s5_profile => k_is); (case l_L_s5_profile => k_is); (case c_L_s5_profile => k_is); (case k_L_s5_profile => k_is); (case a_L_s5_level => k_is); (case l_L_s5_level => k_is); (case c_L_s5_level => k_is); (case k_L_s5_level => k_is); (case a_L_s5_followed => k_is); (case l_L_s5_followed => k_is); (case c_L_s5_followed => k_is); (case k_L_s5_followed => k_is); (case a_L_s5_right => k_is); (case l_L_s5_right => k_is); (case c_L_s5_right => k_is); (case k_L_s5_right => k_is); (case a_law => k_is); (case l_law => k_is); (case c_law => k_is); (case k_law => k_is); (case z_isinstance => k_is); (case z_int => k_is); (case z_bool => k_is); (case z_all => k_is); (case z_tuple => k_is); (case z_len => k_is); (case z_range => k_is); (case z_min => k_is); (case z_max => k_is); (case z_abs => k_is); (case z_enumerate => k_is); (case z_sorted => k_is); (case z_set => k_is); (case y_MOST_BUDGET => k_is)
